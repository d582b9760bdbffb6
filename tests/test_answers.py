import copy
import inspect
import itertools
import random
import unittest

from heldwhen import answers
from heldwhen.algebra import columns_of, join_tables, lift_table, match_tables, pick_rows, twin_rows
from heldwhen.answers import answer_of
from heldwhen.asks import width_of
from heldwhen.groups import count_rows, sum_rows
from heldwhen.tables import slice_of
from tests.ask_samples import (
    ASKS_OF_ALL_KINDS, DAYS, LONE, PRICE, SEEN, SMALL, STOCK, TURNS, at_rim, chain_of, field_in, fields_told,
    plainly_answered, random_asks, turns_matter,
)
from tests.plot_samples import ALL, EMPTY, FAR
from tests.samples import MANY_FIGURES
from tests.table_samples import TableCase, plainly_cut, random_table
from tests.telling_samples import book_of, random_tellings

TELLINGS = [
    ("tell", "stock", (1, 1), 0, 10), ("tell", "stock", (2, 1), None, None), ("tell", "seen", (1, 1), 4, None),
    ("tell", "price", (1, 1, 2), -4, 4), ("tell", "stock", (1, 2), 5, None), ("tell", "price", (1, 2, 2), 0, 7),
    ("strike", "stock", (2,), 2, 3), ("tell", "lone", (2,), None, 5), ("tell", "price", (2, 1, 1), None, 1),
    ("strike", "seen", (1, 1), 6, 7), ("tell", "stock", (1, 1), 5, 6),
]


def book_tables(tellings, shapes=SMALL):
    return book_of(tellings, shapes).tables()


def random_tables_by_name(seed, rows=5):
    """Tables that no book makes: with spots at all turns, before 1 too."""
    chance = random.Random(seed)
    return {name: random_table(chance, width, rows, range(-1, 3)) for name, keys, width in SMALL}


class Points26And27(TableCase):
    def setUp(self):
        self.tables = book_tables(TELLINGS)

    def test_written_out(self):
        stock = [((1, 1), (EMPTY, ((1, (False, (0, 10))), (5, (False, (0, 5))), (11, (False, (0, 6)))))),
                 ((1, 2), (EMPTY, ((5, (False, (5,))), (11, (False, (6,)))))),
                 ((2, 1), (EMPTY, ((2, ALL), (7, (True, (2, 3))))))]
        for ask, wanted in (
            (STOCK, stock),
            (("pick", STOCK, 1, "over", 1), stock[1:2]),
            (("twins", STOCK, 0, 1), stock[:1]),
            (("columns", STOCK, (0,)), [((1,), (EMPTY, ((1, (False, (0, 10))), (5, (False, (0,)))))),
                                        ((2,), (EMPTY, ((2, ALL), (7, (True, (2, 3))))))]),
            (("joined", STOCK, SEEN, "both"), [
                ((1, 1), (EMPTY, ((3, (False, (4, 10))), (5, (False, (4, 5))), (11, (False, (4, 6))))))]),
            (("matched", LONE, STOCK, ((0, 0),)), [((2, 2, 1), (EMPTY, ((8, (True, (2, 3, 5))),)))]),
            (("counted", PRICE, (0,)), [
                ((1, 1), (EMPTY, ((4, (False, (-4, 4))), (6, (False, (-4, 0, 4, 7)))))),
                ((1, 2), (EMPTY, ((6, (False, (0, 4))),))), ((2, 1), (EMPTY, ((9, (True, (1,))),)))]),
            (("summed", PRICE, (0,), 2), [
                ((1, 2), (EMPTY, ((4, (False, (-4, 4))), (6, (False, (-4, 0, 4, 7)))))),
                ((1, 4), (EMPTY, ((6, (False, (0, 4))),))), ((2, 1), (EMPTY, ((9, (True, (1,))),)))]),
            (("lifted", SEEN, "known", 0), [((1, 1), (EMPTY, ((3, (False, (4,))),)))]),
            (("lifted", SEEN, "moved", 3), [((1, 1), (EMPTY, ((3, (False, (7,))), (10, (False, (7, 9, 10))))))]),
        ):
            self.assertEqual(answer_of(self.tables, ask), wanted, ask)

    def test_it_is_what_is_made_of_the_parts_answers(self):
        for ask, width in random_asks(40, 141, 4):
            part = answer_of(self.tables, ask)
            every = tuple(range(width))
            other = answer_of(self.tables, ("columns", STOCK, (0,) * width))
            asks = [
                (("columns", ask, every[::-1]), columns_of(part, every[::-1])),
                (("columns", ask, ()), columns_of(part, ())),
                (("counted", ask, every[1:]), count_rows(part, every[1:])),
                (("joined", ask, ("columns", STOCK, (0,) * width), "just"), join_tables(part, other, "just")),
                (("joined", ("columns", STOCK, (0,) * width), ask, "less"), join_tables(other, part, "less")),
                (("matched", ask, LONE, ()), match_tables(part, self.tables["lone"], ())),
                (("matched", LONE, ask, ()), match_tables(self.tables["lone"], part, ())),
            ]
            for word in ("moved", "ever", "always", "known", "asof", "from"):
                asks.append((("lifted", ask, word, 3), lift_table(part, word, 3)))
            for column in every:
                asks.append((("twins", ask, column, 0), twin_rows(part, column, 0)))
                asks.append((("summed", ask, (0,), column), sum_rows(part, (0,), column)))
                pairs = ((column, 1),)
                asks.append((("matched", ask, STOCK, pairs), match_tables(part, self.tables["stock"], pairs)))
                for word in ("is", "under", "over"):
                    asks.append((("pick", ask, column, word, 1), pick_rows(part, column, word, 1)))
            for asked, wanted in asks:
                self.assertEqual(answer_of(self.tables, asked), wanted, asked)

    def test_of_a_name_that_table_as_a_new_list(self):
        for name in self.tables:
            told = answer_of(self.tables, ("table", name))
            self.assertEqual(told, self.tables[name])
            self.assertIsNot(told, self.tables[name])

    def test_tables_without_rows(self):
        tables = {name: [] for name, keys, width in SMALL}
        for ask in ASKS_OF_ALL_KINDS:
            self.assertEqual(answer_of(tables, ask), [])

    def test_twenty_in_one_another(self):
        for deep in (1, 2, 19, 20):
            ask = chain_of(deep)
            moved = deep // 2 - (deep % 2 == 0)
            self.assertEqual(answer_of(self.tables, ask), lift_table(self.tables["stock"], "moved", moved))

    def test_more_tables_than_are_asked_of(self):
        tables = dict(self.tables, other=[((1,), (ALL, ()))])
        for ask in ASKS_OF_ALL_KINDS:
            self.assertEqual(answer_of(tables, ask), answer_of(self.tables, ask))

    def test_numbers_of_sixty_figures(self):
        tables = {"stock": [((FAR, -FAR), (EMPTY, ((1, (False, (-FAR, MANY_FIGURES))),)))]}
        self.assertEqual(answer_of(tables, ("pick", STOCK, 0, "is", FAR)), tables["stock"])
        self.assertEqual(answer_of(tables, ("pick", STOCK, 0, "over", FAR)), [])
        self.assertEqual(answer_of(tables, ("lifted", STOCK, "moved", FAR)),
                         [((FAR, -FAR), (EMPTY, ((1, (False, (0, MANY_FIGURES + FAR))),)))])
        self.assertEqual(answer_of(tables, ("lifted", STOCK, "from", FAR)),
                         [((FAR, -FAR), (EMPTY, ((FAR, (False, (-FAR, MANY_FIGURES))),)))])


class Point29(TableCase):
    """Cut at each spot, the answer is what the ask's words make of the tables' rows there."""

    def assert_answer(self, tables, fields, ask):
        told = answer_of(tables, ask)
        self.assert_table(told)
        self.assertEqual(field_in(told), plainly_answered(fields, ask), ask)
        return told

    def test_each_kind(self):
        tables, fields = book_tables(TELLINGS), fields_told(TELLINGS, SMALL)
        for ask in ASKS_OF_ALL_KINDS:
            self.assert_answer(tables, fields, ask)

    def test_by_chance(self):
        with_rows = 0
        for seed in range(151, 156):
            tellings = random_tellings(14, seed, SMALL)
            tables, fields = book_tables(tellings), fields_told(tellings, SMALL)
            for ask, width in random_asks(30, seed):
                told = self.assert_answer(tables, fields, ask)
                self.assertTrue(all(len(row) == width for row, plot in told))
                with_rows += 1 if told else 0
        # Else the asks by chance would show little.
        self.assertGreater(with_rows, 90)

    def test_of_tables_that_no_book_makes(self):
        for seed in range(156, 159):
            tables = random_tables_by_name(seed)
            fields = {name: field_in(table) for name, table in tables.items()}
            for ask, width in random_asks(15, seed):
                self.assert_answer(tables, fields, ask)

    def test_far_out(self):
        tables, fields = book_tables(TELLINGS), fields_told(TELLINGS, SMALL)
        for ask in ASKS_OF_ALL_KINDS:
            told, field = answer_of(tables, ask), plainly_answered(fields, ask)
            for day, turn in itertools.product((-FAR, FAR), (-FAR, 0, FAR)):
                wanted = field[at_rim(day, DAYS), at_rim(turn, TURNS)]
                self.assertEqual(plainly_cut(told, day, turn), sorted(wanted), (ask, day, turn))

    def test_nothing_before_turn_1(self):
        for seed in range(159, 162):
            tables = book_tables(random_tellings(12, seed, SMALL))
            for ask, width in random_asks(40, seed):
                for row, plot in answer_of(tables, ask):
                    self.assertEqual(plot[0], EMPTY)
                    self.assertGreaterEqual(plot[1][0][0], 1)


class Point3(TableCase):
    def test_no_telling_changes_what_an_answer_tells_at_an_earlier_turn(self):
        for seed in range(162, 166):
            tellings = random_tellings(12, seed, SMALL)
            for ask in ASKS_OF_ALL_KINDS + [ask for ask, width in random_asks(20, seed)]:
                elder = answer_of(book_tables([]), ask)
                for many in range(len(tellings)):
                    newer = answer_of(book_tables(tellings[:many + 1]), ask)
                    self.assertEqual(lift_table(newer, "asof", many), lift_table(elder, "asof", many), ask)
                    elder = newer

    def test_answers_that_are_cut_alike_are_equal_lists(self):
        tables = book_tables(TELLINGS)
        for part, width in random_asks(40, 166, 4):
            for one, other in (
                (("joined", part, part, "less"), ("joined", part, part, "just")),
                (("joined", part, part, "both"), part),
                (("lifted", ("lifted", part, "moved", 5), "moved", -5), part),
                (("lifted", ("lifted", part, "known", 0), "known", 0), ("lifted", part, "known", 0)),
                (("lifted", part, "from", 0), part),
                (("columns", part, tuple(range(width))), part),
                (("columns", ("counted", part, tuple(range(width))), tuple(range(width))), part),
                (("joined", ("lifted", part, "moved", 1), part, "just"),
                 ("joined", part, ("lifted", part, "moved", 1), "just")),
            ):
                self.assertEqual(answer_of(tables, one), answer_of(tables, other), one)


class Point30(TableCase):
    def test_the_slice_of_the_answer_is_the_answer_of_the_slices(self):
        seen = 0
        for seed in range(171, 175):
            tables = book_tables(random_tellings(12, seed, SMALL))
            for ask in ASKS_OF_ALL_KINDS + [ask for ask, width in random_asks(60, seed, 4)]:
                if turns_matter(ask):
                    continue
                answer = answer_of(tables, ask)
                for turn in [-FAR, -1, FAR] + list(range(14)):
                    slices = {name: slice_of(table, turn) for name, table in tables.items()}
                    self.assertEqual(slice_of(answer, turn), answer_of(slices, ask), (ask, turn))
                    seen += 1
        self.assertGreater(seen, 2000)


class Point2(unittest.TestCase):
    def test_what_was_handed_in_stays(self):
        tables = book_tables(TELLINGS)
        before = copy.deepcopy(tables)
        for ask in ASKS_OF_ALL_KINDS:
            answer_of(tables, ask)
            self.assertEqual(tables, before)
            self.assertEqual(list(tables), list(before))

    def test_what_was_told_is_the_askers_own(self):
        tables = book_tables(TELLINGS)
        before = copy.deepcopy(tables)
        for ask in ASKS_OF_ALL_KINDS:
            told = answer_of(tables, ask)
            as_told = list(told)
            self.assertIsNot(told, answer_of(tables, ask))
            told.reverse()
            told.append(((7, 7), (ALL, ())))
            self.assertEqual(answer_of(tables, ask), as_told)
            told.clear()
            self.assertEqual(tables, before)
            self.assertEqual(answer_of(tables, ask), as_told)

    def test_what_is_done_to_the_tables_later_changes_no_answer(self):
        for ask in ASKS_OF_ALL_KINDS:
            tables = book_tables(TELLINGS)
            told = answer_of(tables, ask)
            as_told = list(told)
            for table in tables.values():
                table.clear()
            tables.clear()
            self.assertEqual(told, as_told)

    def test_the_interface(self):
        self.assertEqual(list(inspect.signature(answers.answer_of).parameters), ["tables", "ask"])
        for ask in ASKS_OF_ALL_KINDS:
            self.assertGreaterEqual(width_of(SMALL, ask), 0)

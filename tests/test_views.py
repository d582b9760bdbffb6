import copy
import inspect
import random
import unittest

from heldwhen.algebra import lift_table
from heldwhen.answers import answer_of
from heldwhen.views import View
from tests.ask_samples import (
    ASKS_OF_ALL_KINDS, DAYS, PRICE, SEEN, SMALL, STOCK, TURNING_WORDS, TURNS, chain_of, field_in, fields_told,
    plainly_answered, random_asks,
)
from tests.plot_samples import ALL, EMPTY, FAR, is_plain_reach
from tests.samples import plainly_lies_in
from tests.table_samples import TableCase
from tests.telling_samples import book_of, random_tellings

TELLINGS = [
    ("tell", "stock", (1, 1), 0, 10), ("tell", "stock", (2, 1), None, None), ("tell", "seen", (1, 1), 4, None),
    ("strike", "stock", (2,), 2, 3), ("tell", "price", (1, 1, 2), -4, 4), ("tell", "stock", (1, 2), 5, None),
    ("tell", "stock", (1, 2), 6, 7), ("tell", "price", (1, 2, 2), 0, 7), ("tell", "lone", (2,), None, 5),
    ("strike", "seen", (1, 1), 6, 7), ("tell", "stock", (1, 1), 5, 6), ("strike", "stock", (1,), None, None),
]
# Each kind of lifting by turns, with numbers ahead of the turns, among them and behind; alone and in one another.
TURNED = [("lifted", STOCK, word, by) for word in TURNING_WORDS for by in (-FAR, -1, 0, 1, 2, 6, 12, 13, 99, FAR)]
TURNED += [("lifted", ("lifted", STOCK, inner, 4), outer, 7)
           for inner in TURNING_WORDS for outer in TURNING_WORDS + ("ever", "moved")]
TURNED += [("joined", STOCK, ("lifted", STOCK, word, 5), "just") for word in TURNING_WORDS]
TURNED += [
    ("lifted", ("counted", ("lifted", STOCK, "from", 3), ()), "known", 0),
    ("lifted", ("lifted", ("counted", STOCK, (0,)), "known", 0), "asof", 8),
    ("lifted", ("lifted", ("counted", STOCK, (0,)), "asof", 8), "from", 4),
    ("matched", ("lifted", STOCK, "known", 0), ("lifted", SEEN, "from", 8), ()),
    ("summed", ("lifted", PRICE, "known", 0), (0,), 2),
]
NO_TURNS = (0, -1, -7, -FAR)


def tables_told(tellings):
    return book_of(tellings, SMALL).tables()


def asks_for(seed, many=25):
    return ASKS_OF_ALL_KINDS + TURNED[::3] + [ask for ask, width in random_asks(many, seed)]


def days_by_row(field, turn):
    """For each row its days in the field at a turn."""
    found = {}
    for day in DAYS:
        for row in field[day, turn]:
            found.setdefault(row, []).append(day)
    return found


def plainly_touched(field, first, last):
    """Tuples (turn, row, days gained, days lost), the days as lists of those in the field."""
    touched = []
    for turn in range(first, last + 1):
        before, here = days_by_row(field, turn - 1), days_by_row(field, turn)
        for row in sorted(set(before) | set(here)):
            was, now = before.get(row, []), here.get(row, [])
            if was != now:
                gained, lost = [day for day in now if day not in was], [day for day in was if day not in now]
                touched.append((turn, row, gained, lost))
    return touched


def days_in(reach):
    return [day for day in DAYS if plainly_lies_in(reach, day)]


class ViewCase(TableCase):
    def assert_touched(self, told, wanted, ask):
        self.assertIs(type(told), list)
        for touched in told:
            self.assertIs(type(touched), tuple)
            self.assertEqual(len(touched), 4)
            self.assertIs(is_plain_reach(touched[2]) and is_plain_reach(touched[3]), True)
        plain = [(turn, row, days_in(gained), days_in(lost)) for turn, row, gained, lost in told]
        self.assertEqual(plain, wanted, ask)

    def assert_kept(self, view, ask, tables, turn):
        self.assertEqual(view.kept(), turn)
        table = view.table()
        self.assert_table(table)
        self.assertEqual(table, lift_table(answer_of(tables, ask), "asof", turn), (ask, turn))


class ANewView(ViewCase):
    def test_kept_up_to_0_without_rows(self):
        for ask in ASKS_OF_ALL_KINDS + TURNED + [chain_of(20)]:
            view = View(ask)
            self.assertEqual(view.kept(), 0)
            self.assertEqual(view.table(), [])

    def test_caught_up_to_no_turn(self):
        tables = tables_told(TELLINGS)
        for ask in ASKS_OF_ALL_KINDS:
            view = View(ask)
            for turn in NO_TURNS:
                self.assertEqual(view.catch_up(tables, turn), [])
                self.assertEqual(view.kept(), 0)
                self.assertEqual(view.table(), [])


class Point31(ViewCase):
    def test_written_out(self):
        view = View(STOCK)
        tables = tables_told(TELLINGS)
        self.assertEqual(view.catch_up(tables, 1), [(1, (1, 1), (False, (0, 10)), EMPTY)])
        self.assertEqual(view.catch_up(tables, 3), [(2, (2, 1), ALL, EMPTY)])
        self.assertEqual(view.kept(), 3)
        self.assertEqual(view.catch_up(tables, 6), [
            (4, (2, 1), EMPTY, (False, (2, 3))),
            (6, (1, 1), EMPTY, (False, (5, 10))), (6, (1, 2), (False, (5,)), EMPTY)])
        self.assertEqual(view.catch_up(tables, 10), [])
        self.assertEqual(view.kept(), 10)
        self.assertEqual(view.catch_up(tables, 12), [
            (11, (1, 1), (False, (5, 6)), EMPTY), (11, (1, 2), EMPTY, (False, (5, 6))),
            (12, (1, 1), EMPTY, (False, (0, 6))), (12, (1, 2), EMPTY, (False, (6,)))])
        self.assertEqual(view.table(), tables["stock"])

    def test_gained_and_lost_at_once(self):
        tables = tables_told([("tell", "lone", (1,), 0, 5)])
        view = View(("lifted", ("table", "lone"), "moved", 3))
        view.catch_up(tables, 1)
        moved = {"lone": [((1,), (EMPTY, ((1, (False, (0, 5))), (2, (False, (3, 9))))))]}
        self.assertEqual(view.catch_up(moved, 2), [(2, (1,), (False, (8, 12)), (False, (3, 6)))])

    def test_turn_by_turn(self):
        for seed in range(181, 185):
            tellings = random_tellings(12, seed, SMALL)
            fields = fields_told(tellings, SMALL)
            for ask in asks_for(seed):
                field = plainly_answered(fields, ask)
                view = View(ask)
                for turn in range(1, 13):
                    tables = tables_told(tellings[:turn])
                    self.assert_touched(view.catch_up(tables, turn), plainly_touched(field, turn, turn), ask)
                    self.assert_kept(view, ask, tables, turn)

    def test_each_lifting_by_turns(self):
        tables, fields = tables_told(TELLINGS), fields_told(TELLINGS, SMALL)
        for ask in TURNED:
            field = plainly_answered(fields, ask)
            view = View(ask)
            for turn in range(1, 15):
                self.assert_touched(view.catch_up(tables, turn), plainly_touched(field, turn, turn), ask)
                self.assert_kept(view, ask, tables, turn)

    def test_in_leaps(self):
        for seed in range(185, 189):
            chance = random.Random(seed)
            tellings = random_tellings(12, seed, SMALL)
            tables, fields = tables_told(tellings), fields_told(tellings, SMALL)
            for ask in asks_for(seed):
                field = plainly_answered(fields, ask)
                view = View(ask)
                kept = 0
                while kept < 14:
                    turn = min(kept + chance.randint(1, 7), 14)
                    handed = tables_told(tellings[:turn]) if chance.random() < 0.5 else tables
                    self.assert_touched(view.catch_up(handed, turn), plainly_touched(field, kept + 1, turn), ask)
                    self.assert_kept(view, ask, tables, turn)
                    kept = turn

    def test_in_one_leap_the_same_is_told(self):
        tables = tables_told(TELLINGS)
        for ask in ASKS_OF_ALL_KINDS + TURNED:
            slow, quick = View(ask), View(ask)
            told = []
            for turn in range(1, 15):
                told.extend(slow.catch_up(tables, turn))
            self.assertEqual(quick.catch_up(tables, 14), told)
            self.assertEqual(quick.table(), slow.table())

    def test_a_turn_not_above_the_one_up_to_which_it_is_kept(self):
        tables = tables_told(TELLINGS)
        other = tables_told(TELLINGS[::-1])
        for ask in ASKS_OF_ALL_KINDS + TURNED:
            view = View(ask)
            view.catch_up(tables, 7)
            before = view.table()
            for turn in (7, 6, 1) + NO_TURNS:
                for handed in (tables, other):
                    self.assertEqual(view.catch_up(handed, turn), [])
                    self.assertEqual(view.kept(), 7)
                    self.assertEqual(view.table(), before)
            view.catch_up(tables, 12)
            self.assert_kept(view, ask, tables, 12)

    def test_beyond_the_last_telling(self):
        tables = tables_told(TELLINGS)
        for ask in ASKS_OF_ALL_KINDS[::4] + TURNED[::4]:
            view = View(ask)
            view.catch_up(tables, 12)
            for turn in (13, 40, 1000):
                view.catch_up(tables, turn)
                self.assert_kept(view, ask, tables, turn)
        view = View(("lifted", STOCK, "from", 700))
        alive = tables_told(TELLINGS[:4])
        self.assertEqual([touched[0] for touched in view.catch_up(alive, 1000)], [700, 700])

    def test_a_book_told_on_behind_it(self):
        for ask in ASKS_OF_ALL_KINDS + TURNED:
            book = book_of(TELLINGS[:5], SMALL)
            view = View(ask)
            view.catch_up(book.tables(), 5)
            for word, name, numbers, low, high in TELLINGS[5:]:
                (book.tell if word == "tell" else book.strike)(name, numbers, low, high)
            view.catch_up(book.tables(), book.now())
            self.assert_kept(view, ask, book.tables(), 12)

    def test_without_tables_rows(self):
        for ask in ASKS_OF_ALL_KINDS + TURNED:
            view = View(ask)
            self.assertEqual(view.catch_up(tables_told([]), 5), [])
            self.assertEqual((view.kept(), view.table()), (5, []))


class Point32(ViewCase):
    def test_behind_the_turn_it_stays_as_at_that_turn(self):
        fields = fields_told(TELLINGS, SMALL)
        tables = tables_told(TELLINGS)
        for ask in ASKS_OF_ALL_KINDS + TURNED:
            field = plainly_answered(fields, ask)
            for kept in (1, 4, 11):
                view = View(ask)
                view.catch_up(tables, kept)
                told = field_in(view.table())
                for turn in TURNS:
                    for day in DAYS:
                        self.assertEqual(told[day, turn], field[day, min(turn, kept)], (ask, kept, day, turn))


class Point3(ViewCase):
    def test_kept_and_caught_up_it_is_the_list_that_asking_anew_tells(self):
        for seed in range(191, 194):
            tellings = random_tellings(14, seed, SMALL)
            for ask, width in random_asks(40, seed):
                view = View(ask)
                for turn in (3, 4, 9, 14):
                    tables = tables_told(tellings[:turn])
                    view.catch_up(tables, turn)
                    # Behind the last telling a "from" may yet bring rows; ahead of it the two are one.
                    self.assertEqual(view.table(), lift_table(answer_of(tables, ask), "asof", turn))
                view.catch_up(tables, 30)
                self.assertEqual(view.table(), answer_of(tables, ask))


class Point2(unittest.TestCase):
    def test_what_was_handed_in_stays_and_may_be_changed_behind(self):
        for ask in ASKS_OF_ALL_KINDS + TURNED:
            plain, view = View(ask), View(ask)
            for turn in (2, 6, 12):
                tables = tables_told(TELLINGS)
                before = copy.deepcopy(tables)
                touched = view.catch_up(tables, turn)
                self.assertEqual(tables, before)
                for table in tables.values():
                    table.reverse()
                    table.append(((9, 9), (ALL, ())))
                tables.clear()
                self.assertEqual(touched, plain.catch_up(before, turn))
                self.assertEqual(view.table(), plain.table())

    def test_what_was_told_is_the_askers_own(self):
        tables = tables_told(TELLINGS)
        for ask in ASKS_OF_ALL_KINDS + TURNED:
            plain, view = View(ask), View(ask)
            for turn in (2, 2, 6, 12):
                touched = view.catch_up(tables, turn)
                touched.append((turn, (9, 9), ALL, EMPTY))
                touched.reverse()
                self.assertIsNot(view.table(), view.table())
                table = view.table()
                table.append(((9, 9), (ALL, ())))
                table.reverse()
                plain.catch_up(tables, turn)
                self.assertEqual(view.table(), plain.table())
                view.table().clear()
                self.assertEqual(view.table(), plain.table())

    def test_nothing_later_changes_what_was_told(self):
        tables = tables_told(TELLINGS)
        for ask in ASKS_OF_ALL_KINDS:
            view = View(ask)
            told = [view.catch_up(tables, 6), view.table()]
            as_told = copy.deepcopy(told)
            view.catch_up(tables, 12)
            view.table()
            self.assertEqual(told, as_told)

    def test_two_views_share_nothing(self):
        tables = tables_told(TELLINGS)
        for ask in ASKS_OF_ALL_KINDS:
            one, other = View(ask), View(ask)
            one.catch_up(tables, 12)
            self.assertEqual((other.kept(), other.table()), (0, []))

    def test_the_interface(self):
        self.assertEqual(list(inspect.signature(View).parameters), ["ask"])
        self.assertEqual(list(inspect.signature(View.catch_up).parameters), ["self", "tables", "turn"])

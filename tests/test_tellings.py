import copy
import random
import unittest

from heldwhen.errors import NoStretch, NoTable, NoWidth
from heldwhen.tables import table_of
from heldwhen.tellings import check_telling, told_on
from tests.plot_samples import ALL, ALL_SPOTS, EMPTY, FAR, NO_SPOTS, plainly_reach_at, telling_turns
from tests.samples import MANY_FIGURES
from tests.table_samples import (
    WEEK, WEEK_FROM_1, TableCase, plainly_cut, random_table, table_spots, tables_of_all_sorts,
)
from tests.telling_samples import (
    KEY, NO_KEYS, NO_NAMES, NO_ROWS, NO_STRETCHES, ROW, SHAPES, STRETCHES, book_of, random_days, random_tellings,
)


class Point22(TableCase):
    def assert_said(self, telling, refusal):
        if refusal is None:
            self.assertIsNone(check_telling(SHAPES, telling))
        else:
            self.assert_refused(refusal, lambda: check_telling(SHAPES, telling))

    def assert_both(self, name, row, key, days, refusal):
        self.assert_said(("tell", name, row) + days, refusal)
        self.assert_said(("strike", name, key) + days, refusal)

    def test_taken(self):
        for name, keys, width in SHAPES:
            for days in STRETCHES:
                self.assert_both(name, (7,) * width, (7,) * keys, days, None)
                self.assert_both(name, (-FAR,) * width, (FAR,) * keys, days, None)

    def test_no_table(self):
        for name in NO_NAMES:
            self.assert_both(name, ROW, KEY, (1, 2), NoTable)

    def test_no_width(self):
        for row in NO_ROWS:
            self.assert_said(("tell", "stock", row, 1, 2), NoWidth)
        for key in NO_KEYS:
            self.assert_said(("strike", "stock", key, 1, 2), NoWidth)
        for name, keys, width in SHAPES:
            self.assert_both(name, (0,) * (width + 1), (0,) * (keys + 1), (None, None), NoWidth)
            self.assert_said(("tell", name, (0,) * (width - 1), None, None), NoWidth)
            if keys:
                self.assert_said(("strike", name, (0,) * (keys - 1), None, None), NoWidth)

    def test_a_row_is_no_key_and_a_key_no_row(self):
        self.assert_said(("tell", "stock", KEY, 1, 2), NoWidth)
        self.assert_said(("strike", "stock", ROW, 1, 2), NoWidth)
        self.assert_said(("tell", "lone", (), 1, 2), NoWidth)
        self.assert_said(("strike", "lone", (4,), 1, 2), NoWidth)
        self.assert_both("seen", (1, 2), (1, 2), (1, 2), None)

    def test_no_stretch(self):
        for days in NO_STRETCHES:
            self.assert_both("stock", ROW, KEY, days, NoStretch)
            self.assert_both("lone", (4,), (), days, NoStretch)

    def test_two_or_three_at_once(self):
        for name in NO_NAMES:
            for days in NO_STRETCHES:
                self.assert_both(name, ROW, KEY, days, NoTable)
                self.assert_both(name, (), ROW, days, NoTable)
            self.assert_both(name, (), ROW, (1, 2), NoTable)
        for days in NO_STRETCHES:
            for row in NO_ROWS:
                self.assert_said(("tell", "stock", row) + days, NoWidth)
            for key in NO_KEYS:
                self.assert_said(("strike", "stock", key) + days, NoWidth)

    def test_no_shapes(self):
        self.assert_refused(NoTable, lambda: check_telling([], ("tell", "stock", ROW, 1, 2)))

    def test_what_was_handed_in_is_as_it_was(self):
        shapes = copy.deepcopy(SHAPES)
        check_telling(shapes, ("tell", "stock", ROW, 1, 2))
        self.assertEqual(shapes, SHAPES)


class Point25(TableCase):
    TABLE = [((1, 5), (EMPTY, ((1, (False, (0, 10))),))), ((1, 7), (EMPTY, ((2, (False, (10, 20))),))),
             ((2, 0), (EMPTY, ((3, ALL),)))]

    def assert_told_on(self, table, keys, telling, turn):
        kept = copy.deepcopy(table)
        told = told_on(table, keys, telling, turn)
        self.assertEqual(table, kept)
        self.assert_table(told)
        word, name, numbers, low, high = telling
        spots = [(day, at) for day, at in table_spots(table, told)]
        spots += [(end + near, at) for end in (low, high) if end is not None for near in (-1, 0)
                  for at in (turn - 1, turn, turn + 1, -FAR, FAR)]
        for day, at in spots:
            if at < turn:
                self.assertEqual(plainly_cut(told, day, at), plainly_cut(table, day, at), (table, telling, day, at))
                continue
            inside = (low is None or low <= day) and (high is None or day < high)
            rows = [row for row in plainly_cut(table, day, turn - 1) if not inside or row[:keys] != numbers[:keys]]
            if inside and word == "tell":
                rows.append(numbers)
            self.assertEqual(plainly_cut(told, day, at), sorted(rows), (table, telling, day, at))
        return told

    def test_a_row_told_for_the_first_time(self):
        told = told_on([], 1, ("tell", "stock", (1, 5), 0, 10), 1)
        self.assertEqual(told, [((1, 5), (EMPTY, ((1, (False, (0, 10))),)))])
        told = told_on(self.TABLE, 1, ("tell", "stock", (1, 6), None, None), 4)
        self.assertEqual(told, [
            ((1, 5), (EMPTY, ((1, (False, (0, 10))), (4, EMPTY)))), ((1, 6), (EMPTY, ((4, ALL),))),
            ((1, 7), (EMPTY, ((2, (False, (10, 20))), (4, EMPTY)))), self.TABLE[2]])

    def test_days_that_meet_in_part_wholly_or_not(self):
        for days, first, second in (
            ((5, 15), (False, (0, 5)), (False, (15, 20))),
            ((0, 10), EMPTY, None),
            ((3, 4), (False, (0, 3, 4, 10)), None),
            ((30, 40), None, None),
            ((None, 0), None, None),
            ((20, None), None, None),
            ((None, 12), EMPTY, (False, (12, 20))),
            ((19, None), None, (False, (10, 19))),
            ((None, None), EMPTY, EMPTY),
        ):
            told = dict(told_on(self.TABLE, 1, ("strike", "stock", (1,)) + days, 9))
            for (row, plot), reach in zip(self.TABLE, (first, second, None)):
                wanted = plot if reach is None else (plot[0], plot[1] + ((9, reach),))
                self.assertEqual(told[row], wanted, (days, row))
            self.assertEqual(len(told), 3)

    def test_a_row_told_anew(self):
        told = told_on(self.TABLE, 1, ("tell", "stock", (1, 5), 5, 15), 4)
        self.assertEqual(told, [
            ((1, 5), (EMPTY, ((1, (False, (0, 10))), (4, (False, (0, 15)))))),
            ((1, 7), (EMPTY, ((2, (False, (10, 20))), (4, (False, (15, 20)))))), self.TABLE[2]])
        self.assertEqual(told_on(self.TABLE, 1, ("tell", "stock", (1, 5), 2, 7), 4), self.TABLE)
        self.assertEqual(told_on(self.TABLE, 1, ("tell", "stock", (2, 0), None, None), 4), self.TABLE)

    def test_a_striking_of_a_key_without_rows(self):
        self.assertEqual(told_on(self.TABLE, 1, ("strike", "stock", (3,), None, None), 4), self.TABLE)
        self.assertEqual(told_on([], 1, ("strike", "stock", (3,), None, None), 4), [])

    def test_keys_of_no_numbers_and_of_all(self):
        told = told_on(self.TABLE, 0, ("strike", "lone", (), 5, 12), 4)
        self.assertEqual([plot[1][-1] for row, plot in told],
                         [(4, (False, (0, 5))), (4, (False, (12, 20))), (4, (True, (5, 12)))])
        told = told_on(self.TABLE, 2, ("strike", "seen", (1, 5), 5, 12), 4)
        self.assertEqual(told, [((1, 5), (EMPTY, ((1, (False, (0, 10))), (4, (False, (0, 5))))))] + self.TABLE[1:])
        told = told_on(self.TABLE, 2, ("tell", "seen", (1, 6), 5, 12), 4)
        self.assertEqual(told, self.TABLE[:1] + [((1, 6), (EMPTY, ((4, (False, (5, 12))),)))] + self.TABLE[1:])

    def test_grounds_with_days(self):
        table = [((1, 5), (WEEK, ())), ((1, 6), ((True, (3,)), ())), ((2, 5), ALL_SPOTS)]
        self.assertEqual(told_on(table, 1, ("tell", "stock", (1, 5), 0, 5), -4), [
            ((1, 5), (WEEK, ((-4, (False, (0, 7))),))), ((1, 6), ((True, (3,)), ((-4, (True, (0,))),))),
            ((2, 5), ALL_SPOTS)])

    def test_spot_by_spot(self):
        chance = random.Random(91)
        tables = [table for table in tables_of_all_sorts() if not table or len(table[0][0]) == 2]
        tables += [random_table(chance, 2, 6, range(3)) for place in range(25)]
        for table in tables:
            turn = max([at for row, plot in table for at, reach in plot[1]], default=0) + chance.randint(1, 5)
            for keys in (0, 1, 2):
                for place in range(6):
                    row = (chance.randint(0, 2), chance.randint(0, 2))
                    days = random_days(chance)
                    self.assert_told_on(table, keys, ("tell", "stock", row) + days, turn)
                    self.assert_told_on(table, keys, ("strike", "stock", row[:keys]) + days, turn)

    def test_earlier_turns_stay(self):
        told = self.assert_told_on(self.TABLE, 1, ("tell", "stock", (1, 8), None, None), MANY_FIGURES)
        for row, plot in self.TABLE:
            for turn in telling_turns(plot, (EMPTY, ((MANY_FIGURES, ALL),))):
                if turn < MANY_FIGURES:
                    self.assertEqual(plainly_reach_at(dict(told)[row], turn), plainly_reach_at(plot, turn))

    def test_a_books_table_told_on_is_its_next_table(self):
        for seed in range(92, 98):
            tellings = random_tellings(25, seed)
            for place, telling in enumerate(tellings):
                elder, newer = book_of(tellings[:place]), book_of(tellings[:place + 1])
                for name, keys, width in SHAPES[:4]:
                    table = elder.table(name)
                    if name == telling[1]:
                        table = told_on(table, keys, telling, place + 1)
                    self.assertEqual(table, newer.table(name))


class Point2(unittest.TestCase):
    def test_a_list_that_was_told_is_the_askers_own(self):
        table = table_of([((1, 5), WEEK_FROM_1), ((2, 5), ALL_SPOTS)])
        kept = copy.deepcopy(table)
        for telling in (("tell", "stock", (1, 6), 0, 9), ("strike", "stock", (1,), 0, 9),
                        ("strike", "stock", (9,), 0, 9), ("tell", "stock", (2, 5), None, None)):
            told, later = told_on(table, 1, telling, 4), told_on(table, 1, telling, 4)
            as_told = list(later)
            self.assertIsNot(told, table)
            told.append(((99, 99), NO_SPOTS))
            told.reverse()
            self.assertEqual(later, as_told)
            told.clear()
            self.assertEqual(told_on(table, 1, telling, 4), as_told)
            self.assertEqual(table, kept)

    def test_what_is_done_to_the_table_later_changes_nothing(self):
        table = table_of([((1, 5), WEEK_FROM_1), ((2, 5), ALL_SPOTS)])
        told = told_on(table, 1, ("strike", "stock", (9,), 0, 9), 4)
        table.clear()
        self.assertEqual(told, [((1, 5), WEEK_FROM_1), ((2, 5), ALL_SPOTS)])

import copy
import random
import unittest

from heldwhen.algebra import columns_of, join_tables, lift_table, match_tables, pick_rows, twin_rows
from heldwhen.errors import NoWord
from tests.plot_samples import ALL, ALL_SPOTS, EMPTY, FAR, LIFT_WORDS, NO_LIFTS, NO_SPOTS, plainly_lifted
from tests.samples import MANY_FIGURES, NO_WORDS, WORDS, asked
from tests.table_samples import (
    WEEK, WEEK_FROM_1, TableCase, is_plain_table, plainly_cut, random_table, random_tables, table_spots,
    tables_of_all_sorts,
)

LATER = (False, (5, 9))
UNTIL_4 = (EMPTY, ((1, WEEK), (4, EMPTY)))
FROM_2 = (EMPTY, ((2, LATER),))
TABLE = [((1, 1), WEEK_FROM_1), ((1, 2), UNTIL_4), ((2, 1), FROM_2), ((2, 2), ALL_SPOTS), ((3, -7), (WEEK, ()))]
NO_PICKS = NO_WORDS + tuple(WORDS) + LIFT_WORDS + (
    "IS", "is ", " is", "i", "isis", "unde", "under\n", "Over", "ove", "=",
)


def width_of(table):
    return len(table[0][0]) if table else 2


def tables_with_columns():
    return [table for table in tables_of_all_sorts() if width_of(table) > 0] + random_tables(12, 61)


class Point16Pick(TableCase):
    def test_written_out(self):
        for column, word, number, rows in (
            (0, "is", 1, [(1, 1), (1, 2)]), (0, "is", 0, []), (0, "is", 3, [(3, -7)]), (1, "is", -7, [(3, -7)]),
            (1, "is", 1, [(1, 1), (2, 1)]), (0, "under", 2, [(1, 1), (1, 2)]), (0, "under", 1, []),
            (1, "under", 1, [(3, -7)]), (1, "under", 2, [(1, 1), (2, 1), (3, -7)]), (0, "over", 2, [(3, -7)]),
            (0, "over", 3, []), (1, "over", 1, [(1, 2), (2, 2)]), (1, "over", -8, [row for row, plot in TABLE]),
            (0, "under", MANY_FIGURES, [row for row, plot in TABLE]), (0, "over", MANY_FIGURES, []),
            (0, "under", -MANY_FIGURES, []), (1, "over", -MANY_FIGURES, [row for row, plot in TABLE]),
        ):
            wanted = [entry for entry in TABLE if entry[0] in rows]
            self.assertEqual(pick_rows(TABLE, column, word, number), wanted, (column, word, number))

    def test_all_sorts(self):
        picks = {"is": lambda here, number: here == number, "under": lambda here, number: here < number,
                 "over": lambda here, number: here > number}
        for table in tables_with_columns():
            for column in range(width_of(table)):
                numbers = {row[column] for row, plot in table} | {-FAR, 0, FAR}
                for number in sorted(numbers | {number - 1 for number in numbers} | {number + 1 for number in numbers}):
                    for word, pick in picks.items():
                        told = pick_rows(table, column, word, number)
                        self.assertIs(is_plain_table(told), True)
                        self.assertEqual(told, [entry for entry in table if pick(entry[0][column], number)])

    def test_spot_by_spot(self):
        for word, pick in (("is", int.__eq__), ("under", int.__lt__), ("over", int.__gt__)):
            told = pick_rows(TABLE, 1, word, 1)
            self.assert_cuts(told, [TABLE], lambda rows: [row for row in rows if pick(row[1], 1)])

    def test_another_word_is_refused_with_no_word(self):
        for word in NO_PICKS:
            for table in ([], TABLE, [((0,), ALL_SPOTS)]):
                for number in (0, 1, MANY_FIGURES):
                    self.assert_refused(NoWord, lambda: pick_rows(table, 0, word, number))

    def test_no_rows(self):
        for word in ("is", "under", "over"):
            self.assertEqual(pick_rows([], 0, word, 3), [])


class Point16Twins(TableCase):
    def test_written_out(self):
        self.assertEqual(twin_rows(TABLE, 0, 1), [((1, 1), WEEK_FROM_1), ((2, 2), ALL_SPOTS)])
        self.assertEqual(twin_rows(TABLE, 1, 0), [((1, 1), WEEK_FROM_1), ((2, 2), ALL_SPOTS)])
        self.assertEqual(twin_rows([], 0, 1), [])
        big = [((0, MANY_FIGURES, MANY_FIGURES), ALL_SPOTS), ((0, MANY_FIGURES, MANY_FIGURES + 1), ALL_SPOTS)]
        self.assertEqual(twin_rows(big, 1, 2), big[:1])
        self.assertEqual(twin_rows(big, 0, 2), [])

    def test_a_column_and_itself(self):
        for table in tables_with_columns():
            for column in range(width_of(table)):
                told = twin_rows(table, column, column)
                self.assertEqual(told, table)
                self.assertIsNot(told, table)

    def test_all_sorts(self):
        for table in tables_with_columns() + random_tables(6, 62, 3, 9):
            for column in range(width_of(table)):
                for other in range(width_of(table)):
                    self.assert_cuts(twin_rows(table, column, other), [table],
                                     lambda rows: [row for row in rows if row[column] == row[other]])


class Point17(TableCase):
    def test_written_out(self):
        self.assertEqual(columns_of(TABLE, (0,)),
                         [((1,), WEEK_FROM_1), ((2,), ALL_SPOTS), ((3,), (WEEK, ()))])
        self.assertEqual(columns_of(TABLE[:3], (1,)),
                         [((1,), (EMPTY, ((1, WEEK), (2, (False, (3, 9)))))), ((2,), UNTIL_4)])
        self.assertEqual(columns_of(TABLE[1:3], ()),
                         [((), (EMPTY, ((1, WEEK), (2, (False, (3, 9))), (4, LATER))))])
        self.assertEqual([row for row, plot in columns_of(TABLE, (1, 0))],
                         [(-7, 3), (1, 1), (1, 2), (2, 1), (2, 2)])
        self.assertEqual([row for row, plot in columns_of(TABLE, (1, 1, 0))],
                         [(-7, -7, 3), (1, 1, 1), (1, 1, 2), (2, 2, 1), (2, 2, 2)])
        for wanted in ((), (0,), (0, 0), (5, 3)):
            self.assertEqual(columns_of([], wanted), [])
        self.assertEqual(columns_of([((), WEEK_FROM_1)], ()), [((), WEEK_FROM_1)])

    def test_all_columns_in_order_make_the_table_itself(self):
        for table in tables_of_all_sorts() + random_tables(12, 63):
            told = columns_of(table, tuple(range(width_of(table))))
            self.assertEqual(told, table)
            self.assertIsNot(told, table)

    def test_all_sorts(self):
        for table in tables_of_all_sorts() + random_tables(12, 64) + random_tables(4, 65, 3, 12):
            width = width_of(table)
            every = tuple(range(width))
            for wanted in {(), every, every[::-1], every + every, every[:1], every[-1:], every[1:] + every[:1],
                           every[-1:] * 3}:
                self.assert_cuts(columns_of(table, wanted), [table],
                                 lambda rows: [tuple(row[column] for column in wanted) for row in rows])

    def test_rows_that_become_alike_and_meet(self):
        table = [((1, 0), (EMPTY, ((1, ALL),))), ((1, 1), (ALL, ((1, EMPTY),)))]
        self.assertEqual(columns_of(table, (0,)), [((1,), ALL_SPOTS)])


class Point18Joined(TableCase):
    def assert_joined(self, one, other):
        for word in WORDS:
            self.assert_cuts(join_tables(one, other, word), [one, other], lambda in_one, in_other: [
                row for row in in_one + in_other if asked(word, row in in_one, row in in_other)])

    def test_written_out(self):
        one = [((1,), UNTIL_4), ((2,), ALL_SPOTS)]
        other = [((1,), FROM_2), ((3,), WEEK_FROM_1)]
        self.assertEqual(join_tables(one, other, "both"), [((1,), (EMPTY, ((2, (False, (5, 7))), (4, EMPTY))))])
        self.assertEqual(join_tables(one, other, "either"),
                         [((1,), (EMPTY, ((1, WEEK), (2, (False, (3, 9))), (4, LATER)))), ((2,), ALL_SPOTS),
                          ((3,), WEEK_FROM_1)])
        self.assertEqual(join_tables(one, other, "less"),
                         [((1,), (EMPTY, ((1, WEEK), (2, (False, (3, 5))), (4, EMPTY)))), ((2,), ALL_SPOTS)])
        self.assertEqual(join_tables(one, other, "just"),
                         [((1,), (EMPTY, ((1, WEEK), (2, (False, (3, 5, 7, 9))), (4, LATER)))), ((2,), ALL_SPOTS),
                          ((3,), WEEK_FROM_1)])

    def test_equal_ones_and_ones_without_rows(self):
        for table in tables_of_all_sorts() + random_tables(6, 66):
            for word, told in (("both", table), ("either", table), ("less", []), ("just", [])):
                self.assertEqual(join_tables(table, copy.deepcopy(table), word), told)
            for word, told in (("both", []), ("either", table), ("less", table), ("just", table)):
                self.assertEqual(join_tables(table, [], word), told)
            for word, told in (("both", []), ("either", table), ("less", []), ("just", table)):
                self.assertEqual(join_tables([], table, word), told)

    def test_all_sorts(self):
        for width in (0, 1, 2, 3):
            tables = [table for table in tables_of_all_sorts() if not table or width_of(table) == width]
            for one in tables:
                for other in tables:
                    self.assert_joined(one, other)

    def test_many_by_chance(self):
        for width in (0, 1, 2):
            for one, other in zip(random_tables(12, 67, width, 5), random_tables(12, 68, width, 5)):
                self.assert_joined(one, other)

    def test_another_word_is_refused_with_no_word(self):
        for word in NO_WORDS + LIFT_WORDS + ("is", "under", "over"):
            for one, other in (([], []), (TABLE, []), ([], TABLE), (TABLE, TABLE), (TABLE[:2], TABLE[2:])):
                self.assert_refused(NoWord, lambda: join_tables(one, other, word))


class Point18Matched(TableCase):
    def assert_matched(self, one, other, pairs):
        self.assert_cuts(match_tables(one, other, pairs), [one, other], lambda in_one, in_other: [
            row + partner for row in in_one for partner in in_other if all(row[i] == partner[j] for i, j in pairs)])

    def test_written_out(self):
        one = [((1, 5), UNTIL_4), ((2, 5), ALL_SPOTS)]
        other = [((5, 0), FROM_2), ((6, 1), WEEK_FROM_1)]
        both = (EMPTY, ((2, (False, (5, 7))), (4, EMPTY)))
        self.assertEqual(match_tables(one, other, ((1, 0),)), [((1, 5, 5, 0), both), ((2, 5, 5, 0), FROM_2)])
        self.assertEqual(match_tables(one, other, ((0, 1),)), [((1, 5, 6, 1), UNTIL_4)])
        self.assertEqual(match_tables(one, other, ((1, 0), (0, 1))), [])
        self.assertEqual(match_tables(one, other, ((1, 0), (1, 0))), match_tables(one, other, ((1, 0),)))
        self.assertEqual(match_tables(one, other, ()), [
            ((1, 5, 5, 0), both), ((1, 5, 6, 1), UNTIL_4), ((2, 5, 5, 0), FROM_2), ((2, 5, 6, 1), WEEK_FROM_1)])

    def test_rows_that_never_meet_go_out(self):
        one = [((1,), (EMPTY, ((1, WEEK), (3, EMPTY))))]
        self.assertEqual(match_tables(one, [((1,), (EMPTY, ((3, WEEK),)))], ((0, 0),)), [])
        self.assertEqual(match_tables(one, [((1,), ((False, (7, 9)), ()))], ((0, 0),)), [])

    def test_tables_without_rows(self):
        for pairs in ((), ((0, 0),), ((1, 0), (0, 1))):
            self.assertEqual(match_tables([], [], pairs), [])
            self.assertEqual(match_tables(TABLE, [], pairs), [])
            self.assertEqual(match_tables([], TABLE, pairs), [])

    def test_rows_without_numbers(self):
        bare = [((), WEEK_FROM_1)]
        self.assertEqual(match_tables(bare, bare, ()), bare)
        for table in tables_of_all_sorts() + random_tables(4, 69):
            self.assert_matched(bare, table, ())
            self.assert_matched(table, bare, ())

    def test_all_sorts(self):
        for one in tables_with_columns()[:8]:
            for other in tables_with_columns()[:8]:
                last, other_last = width_of(one) - 1, width_of(other) - 1
                for pairs in ((), ((0, 0),), ((last, 0),), ((0, other_last), (last, 0)), ((0, 0), (0, 0))):
                    self.assert_matched(one, other, pairs)

    def test_many_by_chance(self):
        for one, other in zip(random_tables(12, 70, 2, 5), random_tables(12, 71, 3, 5)):
            for pairs in ((), ((0, 0),), ((1, 2),), ((0, 1), (1, 0)), ((0, 2), (0, 1)), ((1, 1), (1, 1))):
                self.assert_matched(one, other, pairs)

    def test_three_hundred_rows(self):
        one = [((number, number % 7), WEEK_FROM_1) for number in range(300)]
        other = [((number % 5, number), ALL_SPOTS) for number in range(300)]
        told = match_tables(one, sorted(other), ((0, 1),))
        self.assertEqual(told, [((number, number % 7, number % 5, number), WEEK_FROM_1) for number in range(300)])


class Point20(TableCase):
    def test_written_out(self):
        table = [((1,), UNTIL_4), ((2,), ALL_SPOTS), ((3,), FROM_2)]
        for word, by, told in (
            ("moved", 2, [((1,), (EMPTY, ((1, (False, (5, 9))), (4, EMPTY)))), ((2,), ALL_SPOTS),
                          ((3,), (EMPTY, ((2, (False, (7, 11))),)))]),
            ("ever", 0, [((1,), (EMPTY, ((1, ALL), (4, EMPTY)))), ((2,), ALL_SPOTS), ((3,), (EMPTY, ((2, ALL),)))]),
            ("always", 0, [((2,), ALL_SPOTS)]),
            ("known", 0, [((1,), WEEK_FROM_1), ((2,), ALL_SPOTS), ((3,), FROM_2)]),
            ("asof", 1, [((1,), WEEK_FROM_1), ((2,), ALL_SPOTS)]),
            ("asof", 0, [((2,), ALL_SPOTS)]),
            ("from", 4, [((2,), (EMPTY, ((4, ALL),))), ((3,), (EMPTY, ((4, LATER),)))]),
        ):
            self.assertEqual(lift_table(table, word, by), told, (word, by))

    def test_all_sorts(self):
        for table in tables_of_all_sorts() + random_tables(8, 72):
            for word in LIFT_WORDS:
                for by in (-MANY_FIGURES, -2, 0, 1, 2, 3, MANY_FIGURES):
                    told = lift_table(table, word, by)
                    self.assert_table(told)
                    for day, turn in table_spots(told, table):
                        wanted = [row for row, plot in table if plainly_lifted(plot, word, by, day, turn)]
                        self.assertEqual(plainly_cut(told, day, turn), wanted)

    def test_another_word_is_refused_with_no_word(self):
        for word in NO_LIFTS:
            for table in ([], TABLE):
                self.assert_refused(NoWord, lambda: lift_table(table, word, 3))

    def test_no_rows(self):
        for word in LIFT_WORDS:
            self.assertEqual(lift_table([], word, 3), [])


class Point2(unittest.TestCase):
    def calls(self, one, other):
        found = [lambda: twin_rows(one, 0, 1), lambda: columns_of(one, (0, 1)), lambda: columns_of(one, (1,)),
                 lambda: match_tables(one, other, ((0, 1),)), lambda: match_tables(one, other, ())]
        found += [lambda word=word: pick_rows(one, 0, word, 1) for word in ("is", "under", "over")]
        found += [lambda word=word: join_tables(one, other, word) for word in WORDS]
        return found + [lambda word=word: lift_table(one, word, 2) for word in LIFT_WORDS]

    def test_what_was_handed_in_is_as_it_was(self):
        for one, other in ((TABLE, TABLE[1:4]), (TABLE, []), ([], TABLE), ([], [])):
            kept = copy.deepcopy((one, other))
            for call in self.calls(one, other):
                call()
            self.assertEqual((one, other), kept)

    def test_what_is_done_to_what_was_handed_in_changes_nothing(self):
        for place in range(len(self.calls(TABLE, TABLE))):
            one, other = copy.deepcopy(TABLE), copy.deepcopy(TABLE[1:])
            told = self.calls(one, other)[place]()
            as_told = copy.deepcopy(told)
            one.clear()
            other.reverse()
            self.assertEqual(told, as_told)

    def test_a_list_that_was_told_is_the_askers_own(self):
        one, other = copy.deepcopy(TABLE), copy.deepcopy(TABLE[1:])
        for call in self.calls(one, other) + self.calls([], []) + self.calls(one, []):
            told = call()
            as_told = list(told)
            self.assertIsNot(told, one)
            self.assertIsNot(told, other)
            later = call()
            told.append(((99, 99), NO_SPOTS))
            told.reverse()
            self.assertEqual(later, as_told)
            told.clear()
            self.assertEqual(call(), as_told)
        self.assertEqual((one, other), (TABLE, TABLE[1:]))

    def test_three_hundred_rows(self):
        chance = random.Random(73)
        one, other = random_table(chance, 2, 300, range(-40, 40)), random_table(chance, 2, 300, range(-40, 40))
        for call in self.calls(one, other)[:3] + self.calls(one, other)[5:]:
            self.assertIs(is_plain_table(call()), True)

import copy
import random
import unittest

from heldwhen.groups import count_rows, sum_rows
from tests.plot_samples import ALL, ALL_SPOTS, EMPTY, NO_SPOTS
from tests.samples import MANY_FIGURES
from tests.table_samples import (
    WEEK, WEEK_FROM_1, TableCase, is_plain_table, plainly_cut, random_table, random_tables, tables_of_all_sorts,
)

LATER = (False, (5, 9))
# Days 3 to 6 from turn 1 on; days 5 to 8 from turn 2 on, none from turn 5 on.
TABLE = [((1, 10), WEEK_FROM_1), ((1, 20), (EMPTY, ((2, LATER), (5, EMPTY)))), ((2, 10), ALL_SPOTS)]


def plainly_grouped(rows, wanted):
    groups = {}
    for row in rows:
        groups.setdefault(tuple(row[column] for column in wanted), []).append(row)
    return groups


class Point19(TableCase):
    def assert_counted(self, table, wanted):
        self.assert_cuts(count_rows(table, wanted), [table], lambda rows: [
            row + (len(made_of),) for row, made_of in plainly_grouped(rows, wanted).items()])

    def assert_summed(self, table, wanted, column):
        self.assert_cuts(sum_rows(table, wanted, column), [table], lambda rows: [
            row + (sum(one[column] for one in made_of),) for row, made_of in plainly_grouped(rows, wanted).items()])

    def test_counted_written_out(self):
        one = (EMPTY, ((1, WEEK), (2, (False, (3, 5, 7, 9))), (5, WEEK)))
        two = (EMPTY, ((2, (False, (5, 7))), (5, EMPTY)))
        self.assertEqual(count_rows(TABLE, (0,)), [((1, 1), one), ((1, 2), two), ((2, 1), ALL_SPOTS)])
        self.assertEqual(count_rows(TABLE[:2], ()), [((1,), one), ((2,), two)])
        self.assertEqual(count_rows(TABLE, ()), [
            ((1,), (ALL, ((1, (True, (3, 7))), (2, (True, (3, 9))), (5, (True, (3, 7)))))),
            ((2,), (EMPTY, ((1, WEEK), (2, (False, (3, 5, 7, 9))), (5, WEEK)))),
            ((3,), two)])
        self.assertEqual(count_rows(TABLE[:2], (0, 0)), [((1, 1, 1), one), ((1, 1, 2), two)])
        self.assertEqual(count_rows(TABLE, (0, 1)), [(row + (1,), plot) for row, plot in TABLE])
        self.assertEqual([row for row, plot in count_rows(TABLE, (1, 0))], [(10, 1, 1), (10, 2, 1), (20, 1, 1)])

    def test_summed_written_out(self):
        two = (EMPTY, ((2, (False, (5, 7))), (5, EMPTY)))
        self.assertEqual(sum_rows(TABLE, (0,), 1), [
            ((1, 10), (EMPTY, ((1, WEEK), (2, (False, (3, 5))), (5, WEEK)))),
            ((1, 20), (EMPTY, ((2, (False, (7, 9))), (5, EMPTY)))),
            ((1, 30), two),
            ((2, 10), ALL_SPOTS)])
        self.assertEqual(sum_rows(TABLE[:2], (), 0), [
            ((1,), (EMPTY, ((1, WEEK), (2, (False, (3, 5, 7, 9))), (5, WEEK)))), ((2,), two)])
        self.assertEqual(sum_rows(TABLE, (1,), 1)[0][0], (10, 10))

    def test_a_sum_of_0_is_told_where_there_are_rows_alone(self):
        table = [((-5,), (WEEK, ())), ((5,), (LATER, ()))]
        self.assertEqual(sum_rows(table, (), 0), [
            ((-5,), ((False, (3, 5)), ())), ((0,), ((False, (5, 7)), ())), ((5,), ((False, (7, 9)), ()))])
        self.assertEqual(sum_rows([((0,), WEEK_FROM_1)], (), 0), [((0,), WEEK_FROM_1)])
        self.assertEqual(sum_rows([((0, 1), WEEK_FROM_1), ((0, 2), (LATER, ()))], (0,), 0),
                         [((0, 0), (LATER, ((1, (False, (3, 9))),)))])
        self.assertEqual(sum_rows([((-1,), ALL_SPOTS), ((1,), ALL_SPOTS)], (), 0), [((0,), ALL_SPOTS)])

    def test_no_rows(self):
        for wanted in ((), (0,), (0, 0)):
            self.assertEqual(count_rows([], wanted), [])
            self.assertEqual(sum_rows([], wanted, 0), [])

    def test_rows_without_numbers(self):
        self.assertEqual(count_rows([((), WEEK_FROM_1)], ()), [((1,), WEEK_FROM_1)])

    def test_rows_that_take_turns_keep_the_number(self):
        table = [((1, 7), (ALL, ((3, EMPTY),))), ((2, 7), (EMPTY, ((3, ALL),)))]
        self.assertEqual(count_rows(table, ()), [((1,), ALL_SPOTS)])
        self.assertEqual(sum_rows(table, (), 1), [((7,), ALL_SPOTS)])
        self.assertEqual(sum_rows(table, (1,), 0), [((7, 1), (ALL, ((3, EMPTY),))), ((7, 2), (EMPTY, ((3, ALL),)))])
        table = [((1, 7), ((True, (3,)), ())), ((2, 7), ((False, (3,)), ()))]
        self.assertEqual(count_rows(table, ()), [((1,), ALL_SPOTS)])
        self.assertEqual(sum_rows(table, (), 1), [((7,), ALL_SPOTS)])

    def test_sums_of_many_figures(self):
        big = 10 ** 60 - 1
        table = [((-big, 1), ALL_SPOTS), ((1, 2), (WEEK, ())), ((big, 3), WEEK_FROM_1), ((big, 4), (LATER, ()))]
        told = sum_rows(table, (), 0)
        self.assertIn((big + 1,), [row for row, plot in told])
        self.assert_summed(table, (), 0)
        table = [((big - 2, place), ALL_SPOTS) for place in range(300)]
        self.assertEqual(sum_rows(table, (), 0), [((300 * (big - 2),), ALL_SPOTS)])
        self.assertEqual(sum_rows(table, (0,), 0), [((big - 2, 300 * (big - 2)), ALL_SPOTS)])

    def test_all_sorts(self):
        tables = tables_of_all_sorts() + random_tables(14, 81) + random_tables(6, 82, 3, 12)
        for table in tables + random_tables(6, 83, 1, 6):
            every = tuple(range(len(table[0][0]))) if table else (0, 1)
            for wanted in {(), every, every[::-1], every[:1], every[-1:], every[:1] * 2, every + every[:1]}:
                self.assert_counted(table, wanted)
                for column in every:
                    self.assert_summed(table, wanted, column)

    def test_three_hundred_rows(self):
        # Row k has days 0 to k from turn k on: at turn t and day d there are those from d to t.
        table = [((place,), (EMPTY, ((place, (False, (0, place + 1))),))) for place in range(300)]
        told = count_rows(table, ())
        self.assertIs(is_plain_table(told), True)
        self.assertEqual([row for row, plot in told], [(many,) for many in range(1, 301)])
        for day, turn in ((0, 0), (0, 299), (299, 299), (299, 298), (150, 200), (7, 10 ** 40)):
            many = min(turn, 299) - day + 1
            self.assertEqual(plainly_cut(told, day, turn), [(many,)] if many > 0 else [])

    def test_three_hundred_rows_by_chance(self):
        chance = random.Random(84)
        table = random_table(chance, 2, 300, range(-12, 12))
        told = count_rows(table, ())
        self.assertIs(is_plain_table(told), True)
        for day in range(-8, 12, 3):
            for turn in range(-6, 9, 2):
                rows = plainly_cut(table, day, turn)
                self.assertEqual(plainly_cut(told, day, turn), [(len(rows),)] if rows else [])


class Point2(unittest.TestCase):
    def calls(self, table):
        return [lambda: count_rows(table, (0,)), lambda: count_rows(table, ()), lambda: sum_rows(table, (0,), 1),
                lambda: sum_rows(table, (), 0)]

    def test_what_was_handed_in_is_as_it_was(self):
        for table in (copy.deepcopy(TABLE), []):
            kept = copy.deepcopy(table)
            for call in self.calls(table):
                call()
            self.assertEqual(table, kept)

    def test_a_list_that_was_told_is_the_askers_own(self):
        table = copy.deepcopy(TABLE)
        for call in self.calls(table) + self.calls([]):
            told, later = call(), call()
            as_told = list(later)
            told.append(((99, 99), NO_SPOTS))
            told.reverse()
            self.assertEqual(later, as_told)
            told.clear()
            self.assertEqual(call(), as_told)

    def test_what_is_done_to_what_was_handed_in_changes_nothing(self):
        table = copy.deepcopy(TABLE)
        told = [call() for call in self.calls(table)]
        as_told = copy.deepcopy(told)
        table.clear()
        self.assertEqual(told, as_told)

    def test_numbers_of_sixty_figures(self):
        table = [((MANY_FIGURES, -MANY_FIGURES), WEEK_FROM_1)]
        self.assertEqual(count_rows(table, (1,)), [((-MANY_FIGURES, 1), WEEK_FROM_1)])
        self.assertEqual(sum_rows(table, (1,), 0), [((-MANY_FIGURES, MANY_FIGURES), WEEK_FROM_1)])

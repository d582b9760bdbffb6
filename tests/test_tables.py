import copy
import itertools
import random
import unittest

from heldwhen.plots import blend_plots
from heldwhen.tables import cut_at, is_table, slice_of, table_of
from tests.plot_samples import (
    ALL, ALL_SPOTS, EMPTY, FAR, NO_SPOTS, great_plot, plainly_at, plainly_reach_at, plots_of_all_sorts, random_plot,
    telling_turns,
)
from tests.samples import MANY_FIGURES
from tests.table_samples import (
    WEEK, WEEK_FROM_1, is_plain_table, plainly_cut, random_pairs, random_tables, table_spots, tables_of_all_sorts,
)

LATER = (False, (5, 9))


class Point14IsTable(unittest.TestCase):
    def test_tables(self):
        for table in tables_of_all_sorts() + random_tables(40, 41):
            self.assertIs(is_table(table), True, table)
        self.assertIs(is_table([((number,), ALL_SPOTS) for number in range(300)]), True)

    def assert_none(self, things):
        for thing in things:
            self.assertIs(is_table(thing), False, repr(thing))

    def test_no_list(self):
        self.assert_none([
            (), (((1,), WEEK_FROM_1),), {}, {(1,): WEEK_FROM_1}, set(), {((1,), WEEK_FROM_1)}, frozenset(), None, True,
            False, 0, 1, MANY_FIGURES, 1.5, "", "ab", b"", object(), list, range(0), range(2), iter([]),
            ((1,), WEEK_FROM_1), NO_SPOTS, WEEK_FROM_1, WEEK, (x for x in []),
        ])

    def test_an_entry_that_is_no_pair(self):
        for entry in (None, True, 0, 1, "", "ab", (), ((1,),), ((1,), WEEK_FROM_1, ()), [(1,), WEEK_FROM_1], {}, (1,),
                      {(1,): WEEK_FROM_1, (2,): WEEK_FROM_1}, WEEK, NO_SPOTS, WEEK_FROM_1, (WEEK_FROM_1, (1,)), []):
            self.assert_none([
                [entry], [((0,), ALL_SPOTS), entry], [entry, ((9,), ALL_SPOTS)], [entry, entry],
            ])

    def test_a_row_that_is_none(self):
        for row in (None, 0, 1, True, "", "a", [], [1], {}, {1: 1}, (True,), (False,), (None,), ("1",), ("",), (1.0,),
                    ((),), ((1,),), ([],), (3j,), (float("nan"),), range(1)):
            self.assert_none([
                [(row, ALL_SPOTS)], [((0,), ALL_SPOTS), (row, ALL_SPOTS)], [(row, ALL_SPOTS), ((9,), ALL_SPOTS)],
            ])
        self.assert_none([[((1, True), ALL_SPOTS)], [((False, 1), ALL_SPOTS)], [((1, None, 2), ALL_SPOTS)]])

    def test_rows_of_another_length(self):
        self.assert_none([
            [((), ALL_SPOTS), ((1,), ALL_SPOTS)],
            [((1,), ALL_SPOTS), ((1, 1), ALL_SPOTS)],
            [((1, 1), ALL_SPOTS), ((2,), ALL_SPOTS)],
            [((1, 1), ALL_SPOTS), ((1, 2), ALL_SPOTS), ((1, 2, 0), ALL_SPOTS)],
            [((1, 1), ALL_SPOTS), ((1, 2, 0), ALL_SPOTS), ((1, 3), ALL_SPOTS)],
        ])

    def test_a_plot_that_is_none_or_has_no_spots(self):
        for plot in (None, True, 0, 1, "", "ab", (), [], {}, EMPTY, WEEK, [EMPTY, ((1, WEEK),)], (EMPTY, [(1, WEEK)]),
                     (EMPTY, ((1, EMPTY),)), (EMPTY, ((1, WEEK), (1, ALL))), (EMPTY, ((True, WEEK),)), NO_SPOTS,
                     (WEEK, ((1, WEEK),)), ((0, (3, 7)), ()), ((False, (7, 3)), ()), (WEEK,), (WEEK, (), ())):
            self.assert_none([
                [((1,), plot)], [((), plot)], [((0,), ALL_SPOTS), ((1,), plot)], [((1,), plot), ((2,), ALL_SPOTS)],
            ])

    def test_a_row_twice(self):
        self.assert_none([
            [((), ALL_SPOTS), ((), ALL_SPOTS)],
            [((), WEEK_FROM_1), ((), ALL_SPOTS)],
            [((1,), ALL_SPOTS), ((1,), ALL_SPOTS)],
            [((1,), ALL_SPOTS), ((2,), ALL_SPOTS), ((2,), WEEK_FROM_1)],
            [((1, 2), ALL_SPOTS), ((1, 2), WEEK_FROM_1), ((1, 3), ALL_SPOTS)],
        ])

    def test_rows_that_do_not_rise(self):
        rows = [(-1, 5), (0, -3), (0, 2), (0, MANY_FIGURES), (1, -MANY_FIGURES)]
        for order in itertools.permutations(rows):
            self.assertIs(is_table([(row, ALL_SPOTS) for row in order]), list(order) == rows)

    def test_tables_within_other_things(self):
        self.assert_none([[[]], [[((1,), ALL_SPOTS)]], ([],), {"a": []}])


class Point14TableOf(unittest.TestCase):
    def assert_made(self, pairs):
        kept = copy.deepcopy(pairs)
        table = table_of(pairs)
        self.assertEqual(pairs, kept)
        self.assertIs(is_plain_table(table), True, (pairs, table))
        self.assertIs(is_table(table), True)
        for day, turn in table_spots(pairs):
            wanted = sorted({row for row, plot in pairs if plainly_at(plot, day, turn)})
            self.assertEqual(plainly_cut(table, day, turn), wanted, (pairs, day, turn))
        return table

    def test_written_out(self):
        for pairs, table in (
            ([], []),
            ([((1,), NO_SPOTS)], []),
            ([((), NO_SPOTS), ((), NO_SPOTS)], []),
            ([((), WEEK_FROM_1)], [((), WEEK_FROM_1)]),
            ([((), (WEEK, ())), ((), (LATER, ()))], [((), ((False, (3, 9)), ()))]),
            ([((2,), ALL_SPOTS), ((1,), WEEK_FROM_1)], [((1,), WEEK_FROM_1), ((2,), ALL_SPOTS)]),
            ([((2,), WEEK_FROM_1), ((1,), NO_SPOTS), ((2,), WEEK_FROM_1)], [((2,), WEEK_FROM_1)]),
            ([((2,), WEEK_FROM_1), ((2,), NO_SPOTS)], [((2,), WEEK_FROM_1)]),
            ([((1,), (EMPTY, ((1, WEEK), (4, EMPTY)))), ((0,), ALL_SPOTS), ((1,), (EMPTY, ((2, LATER), (6, EMPTY))))],
             [((0,), ALL_SPOTS),
              ((1,), (EMPTY, ((1, WEEK), (2, (False, (3, 9))), (4, LATER), (6, EMPTY))))]),
            ([((1,), (EMPTY, ((1, WEEK),))), ((1,), (WEEK, ((1, EMPTY),)))], [((1,), (WEEK, ()))]),
            ([((1,), (ALL, ((1, EMPTY),))), ((1,), (EMPTY, ((1, ALL),)))], [((1,), ALL_SPOTS)]),
        ):
            self.assertEqual(table_of(pairs), table, pairs)
            self.assert_made(pairs)

    def test_rows_in_any_order(self):
        rows = [(-1, 5), (0, -3), (0, 2), (0, MANY_FIGURES)]
        wanted = [(row, WEEK_FROM_1) for row in rows]
        for order in itertools.permutations(rows):
            self.assertEqual(table_of([(row, WEEK_FROM_1) for row in order]), wanted)

    def test_a_tables_own_pairs_turned_about(self):
        for table in tables_of_all_sorts() + random_tables(40, 42):
            self.assertEqual(table_of(table[::-1]), table)
            self.assertEqual(table_of(table + table[::-1] + table), table)
            self.assertEqual(table_of([(row, NO_SPOTS) for row, plot in table] + table), table)

    def test_a_row_has_the_spots_of_all_its_plots(self):
        for one in plots_of_all_sorts():
            for other in plots_of_all_sorts():
                table = table_of([((7,), one), ((7,), other)])
                both = blend_plots(one, other, "either")
                self.assertEqual(table, [] if both == NO_SPOTS else [((7,), both)])

    def test_many_by_chance(self):
        chance = random.Random(43)
        for width in (0, 1, 2):
            for place in range(25):
                self.assert_made(random_pairs(chance, width, chance.randint(0, 7), range(2)))

    def test_three_hundred_pairs_of_one_row(self):
        pairs = [((), (EMPTY, ((turn, (False, (3 * turn, 3 * turn + 2))),))) for turn in range(300)]
        random.Random(44).shuffle(pairs)
        steps = [(turn, (False, tuple(day for at in range(turn + 1) for day in (3 * at, 3 * at + 2))))
                 for turn in range(300)]
        self.assertEqual(table_of(pairs), [((), (EMPTY, tuple(steps)))])

    def test_great_plots(self):
        one, other = great_plot(45), great_plot(46)
        self.assertEqual(table_of([((1,), one), ((1,), other)]), [((1,), blend_plots(one, other, "either"))])


class Point15Cut(unittest.TestCase):
    TABLE = [((1, 5), (EMPTY, ((1, WEEK), (4, EMPTY)))), ((1, 7), (EMPTY, ((2, LATER),))),
             ((2, 0), (LATER, ((0, EMPTY),)))]

    def test_written_out(self):
        for day, turn, rows in (
            (3, 0, []), (3, 1, [(1, 5)]), (2, 1, []), (7, 1, []), (6, 3, [(1, 5), (1, 7)]), (6, 4, [(1, 7)]),
            (5, 2, [(1, 5), (1, 7)]), (4, 2, [(1, 5)]), (8, 2, [(1, 7)]), (9, 2, []), (5, -1, [(2, 0)]),
            (5, -FAR, [(2, 0)]), (4, -1, []), (8, -1, [(2, 0)]), (9, -1, []), (5, 0, []), (8, FAR, [(1, 7)]),
            (FAR, FAR, []), (-FAR, 2, []),
        ):
            self.assertEqual(cut_at(self.TABLE, day, turn), rows, (day, turn))

    def test_all_sorts(self):
        for table in tables_of_all_sorts() + random_tables(30, 47):
            for day, turn in table_spots(table):
                told = cut_at(table, day, turn)
                self.assertIs(type(told), list)
                self.assertEqual(told, plainly_cut(table, day, turn), (table, day, turn))

    def test_tables_cut_alike_at_each_spot_are_equal(self):
        chance = random.Random(48)
        for place in range(60):
            pairs = random_pairs(chance, 1, 4, range(2))
            cut_up = []
            for row, plot in pairs:
                other = random_plot(chance)
                cut_up += [(row, blend_plots(plot, other, "both")), (row, blend_plots(plot, other, "less"))]
            chance.shuffle(cut_up)
            self.assertEqual(table_of(cut_up), table_of(pairs))


class Point15Slice(unittest.TestCase):
    def test_written_out(self):
        table = Point15Cut.TABLE
        for turn, told in (
            (-1, [((2, 0), (LATER, ()))]), (-FAR, [((2, 0), (LATER, ()))]), (0, []), (1, [((1, 5), (WEEK, ()))]),
            (2, [((1, 5), (WEEK, ())), ((1, 7), (LATER, ()))]), (3, [((1, 5), (WEEK, ())), ((1, 7), (LATER, ()))]),
            (4, [((1, 7), (LATER, ()))]), (FAR, [((1, 7), (LATER, ()))]),
        ):
            self.assertEqual(slice_of(table, turn), told, turn)

    def test_all_sorts(self):
        for table in tables_of_all_sorts() + random_tables(20, 49):
            for turn in telling_turns(*[plot for row, plot in table]):
                told = slice_of(table, turn)
                self.assertIs(is_plain_table(told), True)
                self.assertIs(is_table(told), True)
                self.assertTrue(all(plot[1] == () for row, plot in told))
                self.assertEqual({row: plot[0] for row, plot in told},
                                 {row: plainly_reach_at(plot, turn) for row, plot in table
                                  if plainly_reach_at(plot, turn) != EMPTY})
                for day, at in table_spots(told):
                    self.assertEqual(plainly_cut(told, day, at), plainly_cut(table, day, turn))
                for at in (-FAR, turn - 1, turn, FAR):
                    self.assertEqual(slice_of(told, at), told)


class Point2(unittest.TestCase):
    def test_what_was_handed_in_is_as_it_was(self):
        tables = tables_of_all_sorts()
        kept = copy.deepcopy(tables)
        for table in tables:
            is_table(table), table_of(table), cut_at(table, 3, 1), slice_of(table, 1)
        self.assertEqual(tables, kept)

    def test_things_that_are_no_table_are_as_they_were(self):
        things = [[((2,), ALL_SPOTS), ((1,), ALL_SPOTS)], [[(1,), [EMPTY, []]]], [([2, 1], WEEK_FROM_1)], {1: [2]}]
        kept = copy.deepcopy(things)
        for thing in things:
            is_table(thing)
        self.assertEqual(things, kept)

    def test_a_list_that_was_told_is_the_askers_own(self):
        table = tables_of_all_sorts()[4]
        for asks in (lambda: table_of(table), lambda: cut_at(table, 3, 1), lambda: slice_of(table, 1),
                     lambda: table_of([]), lambda: cut_at([], 0, 0), lambda: slice_of([], 0)):
            told = asks()
            as_told = list(told)
            other = asks()
            self.assertIsNot(told, other)
            self.assertIsNot(told, table)
            told.append(((99,), ALL_SPOTS))
            told.reverse()
            self.assertEqual(other, as_told)
            told.clear()
            self.assertEqual(asks(), as_told)

    def test_what_is_done_to_the_pairs_later_changes_nothing(self):
        pairs = [((2,), ALL_SPOTS), ((1,), WEEK_FROM_1), ((1,), ALL_SPOTS)]
        table = table_of(pairs)
        cut, part = cut_at(table, 0, 0), slice_of(table, 0)
        pairs.clear()
        self.assertEqual(table, [((1,), ALL_SPOTS), ((2,), ALL_SPOTS)])
        table.clear()
        self.assertEqual(cut, [(1,), (2,)])
        self.assertEqual(part, [((1,), ALL_SPOTS), ((2,), ALL_SPOTS)])

    def test_three_hundred_rows(self):
        table = table_of([((-number, number % 7), WEEK_FROM_1) for number in range(300)])
        self.assertIs(is_plain_table(table), True)
        self.assertEqual(len(cut_at(table, 3, 1)), 300)
        self.assertEqual(len(slice_of(table, 1)), 300)
        self.assertEqual(slice_of(table, 0), [])

    def test_numbers_of_sixty_figures(self):
        plot = (EMPTY, ((FAR - 1, (False, (-FAR, FAR))), (FAR, EMPTY)))
        table = table_of([((FAR, -FAR), plot), ((-FAR, FAR), plot)])
        self.assertEqual(cut_at(table, -FAR, FAR - 1), [(-FAR, FAR), (FAR, -FAR)])
        self.assertEqual(cut_at(table, FAR, FAR - 1), [])
        self.assertEqual(slice_of(table, FAR), [])

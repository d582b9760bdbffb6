import copy
import unittest

from heldwhen.flips import flipped, spot_apart
from heldwhen.plots import blend_plots, is_plot
from tests.plot_samples import (
    ALL, ALL_SPOTS, EMPTY, FAR, NO_SPOTS, great_plot, is_plain_plot, plainly_at, plainly_reach_at, plots_of_all_sorts,
    random_plots, telling_spots,
)
from tests.samples import MANY_FIGURES, plainly_lies_in

WEEK = (False, (3, 7))


class Point11(unittest.TestCase):
    def assert_flip(self, plot):
        told = flipped(plot)
        self.assertIs(is_plain_plot(told), True, (plot, told))
        self.assertIs(is_plot(told), True)
        for day, turn in telling_spots(plot):
            self.assertIs(plainly_at(told, turn, day), plainly_at(plot, day, turn), (plot, day, turn))
        for day, turn in telling_spots(told):
            self.assertIs(plainly_at(told, day, turn), plainly_at(plot, turn, day), (plot, day, turn))
        self.assertEqual(flipped(told), plot)

    def test_written_out(self):
        for plot, flip in (
            (NO_SPOTS, NO_SPOTS),
            (ALL_SPOTS, ALL_SPOTS),
            ((EMPTY, ((4, ALL),)), ((False, (4,)), ())),
            ((ALL, ((4, EMPTY),)), ((True, (4,)), ())),
            ((WEEK, ()), (EMPTY, ((3, ALL), (7, EMPTY)))),
            (((True, (3, 7)), ()), (ALL, ((3, EMPTY), (7, ALL)))),
            ((EMPTY, ((1, WEEK),)), (EMPTY, ((3, (False, (1,))), (7, EMPTY)))),
            ((EMPTY, ((1, WEEK), (5, EMPTY))), (EMPTY, ((3, (False, (1, 5))), (7, EMPTY)))),
            ((EMPTY, ((1, WEEK), (5, (False, (3, 9))))), (EMPTY, ((3, (False, (1,))), (7, (False, (5,))), (9, EMPTY)))),
            ((WEEK, ((2, (True, (3, 7))),)), ((False, (2,)), ((3, (True, (2,))), (7, (False, (2,)))))),
            (((True, (0,)), ((-1, (True, (5,))),)), (ALL, ((0, (False, (-1,))), (5, EMPTY)))),
        ):
            self.assertEqual(flipped(plot), flip, plot)
            self.assertEqual(flipped(flip), plot, flip)

    def test_all_spots_of_some_days(self):
        for edges in ((0,), (-4, 9), (1, 2, 3), (-MANY_FIGURES, MANY_FIGURES)):
            for first in (False, True):
                plot = ((first, edges), ())
                told = flipped(plot)
                self.assertEqual(told[0], ALL if first else EMPTY)
                self.assertEqual([turn for turn, reach in told[1]], list(edges))
                self.assert_flip(plot)

    def test_all_spots_from_a_turn_on(self):
        for turn in (-MANY_FIGURES, -1, 0, 1, MANY_FIGURES):
            self.assertEqual(flipped((EMPTY, ((turn, ALL),))), ((False, (turn,)), ()))
            self.assertEqual(flipped(((False, (turn,)), ())), (EMPTY, ((turn, ALL),)))

    def test_all_sorts(self):
        for plot in plots_of_all_sorts() + random_plots(300, 21):
            self.assert_flip(plot)

    def test_three_hundred_steps(self):
        plot = great_plot(22)
        told = flipped(plot)
        self.assertIs(is_plain_plot(told), True)
        for day, turn in telling_spots(plot)[::13]:
            self.assertIs(plainly_at(told, turn, day), plainly_at(plot, day, turn))
        self.assertEqual(flipped(told), plot)


class Point12(unittest.TestCase):
    def plainly_apart(self, one, other):
        if one == other:
            return None
        ground, steps = blend_plots(one, other, "just")
        if not steps:
            turn = 0
        elif ground == EMPTY:
            turn = steps[0][0]
        else:
            turn = steps[0][0] - 1
        first, edges = plainly_reach_at((ground, steps), turn)
        if not edges:
            day = 0
        else:
            day = edges[0] - 1 if first else edges[0]
        return (day, turn)

    def assert_apart(self, one, other):
        told = spot_apart(one, other)
        self.assertEqual(told, self.plainly_apart(one, other), (one, other))
        self.assertEqual(told, spot_apart(other, one), (one, other))
        if told is not None:
            self.assertIs(type(told), tuple)
            self.assertNotEqual(plainly_at(one, *told), plainly_at(other, *told), (one, other))
        return told

    def test_written_out(self):
        for one, other, spot in (
            (NO_SPOTS, NO_SPOTS, None),
            (NO_SPOTS, ALL_SPOTS, (0, 0)),
            (NO_SPOTS, (WEEK, ()), (3, 0)),
            (NO_SPOTS, ((True, (3, 7)), ()), (2, 0)),
            (NO_SPOTS, (EMPTY, ((4, ALL),)), (0, 4)),
            (NO_SPOTS, (EMPTY, ((4, WEEK), (6, EMPTY))), (3, 4)),
            (NO_SPOTS, (EMPTY, ((-4, (True, (-2,))),)), (-3, -4)),
            (NO_SPOTS, (WEEK, ((4, EMPTY),)), (3, 3)),
            (NO_SPOTS, (ALL, ((0, EMPTY),)), (0, -1)),
            (NO_SPOTS, ((True, (9,)), ((-7, WEEK),)), (8, -8)),
            ((EMPTY, ((1, WEEK),)), (EMPTY, ((2, WEEK),)), (3, 1)),
            ((EMPTY, ((1, WEEK),)), (EMPTY, ((1, (False, (3, 9))),)), (7, 1)),
            ((EMPTY, ((1, WEEK), (5, EMPTY))), (EMPTY, ((1, WEEK), (9, EMPTY))), (3, 5)),
            ((WEEK, ((1, EMPTY),)), ((False, (3, 9)), ((1, EMPTY),)), (7, 0)),
            ((WEEK, ((1, EMPTY),)), ((False, (3, 9)), ((1, (False, (7, 9))),)), (7, 0)),
            ((EMPTY, ((MANY_FIGURES, WEEK),)), NO_SPOTS, (3, MANY_FIGURES)),
        ):
            self.assertEqual(spot_apart(one, other), spot, (one, other))
            self.assert_apart(one, other)

    def test_equal_plots(self):
        for plot in plots_of_all_sorts() + random_plots(60, 23):
            self.assertIsNone(spot_apart(plot, copy.deepcopy(plot)))

    def test_all_sorts_both_orders(self):
        plots = plots_of_all_sorts() + random_plots(30, 24)
        for one in plots:
            for other in plots:
                self.assert_apart(one, other)

    def test_the_day_is_ahead_of_the_turn(self):
        self.assertEqual(spot_apart(NO_SPOTS, (EMPTY, ((FAR, (False, (-FAR,))),))), (-FAR, FAR))

    def test_no_turn_ahead_is_apart_where_the_ground_has_no_days(self):
        for one, other in zip(random_plots(60, 25), random_plots(60, 26)):
            told = spot_apart(one, other)
            if told is not None and one[0] == other[0]:
                for day, turn in telling_spots(one, other):
                    if turn < told[1]:
                        self.assertEqual(plainly_at(one, day, turn), plainly_at(other, day, turn))
                reaches = [plainly_reach_at(plot, told[1]) for plot in (one, other)]
                self.assertNotEqual(*[plainly_lies_in(reach, told[0]) for reach in reaches])


class Point2(unittest.TestCase):
    def test_what_was_handed_in_is_as_it_was(self):
        plots = plots_of_all_sorts()
        kept = copy.deepcopy(plots)
        for one in plots:
            flipped(one)
            for other in plots:
                spot_apart(one, other)
        self.assertEqual(plots, kept)

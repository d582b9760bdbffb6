import copy
import unittest

from heldwhen.errors import NoWord
from heldwhen.lifts import lift
from heldwhen.plots import is_plot
from tests.plot_samples import (
    ALL, ALL_SPOTS, EMPTY, FAR, LIFT_WORDS, NO_LIFTS, NO_SPOTS, great_plot, is_plain_plot, plainly_at, plainly_lifted,
    plainly_reach_at, plots_of_all_sorts, random_plots, telling_days, telling_turns,
)
from tests.samples import MANY_FIGURES

WEEK = (False, (3, 7))
LATER = (False, (5, 9))
STEPPED = (EMPTY, ((1, WEEK), (4, LATER), (6, EMPTY)))


class Point13(unittest.TestCase):
    def assert_lift(self, plot, word, by):
        told = lift(plot, word, by)
        self.assertIs(is_plain_plot(told), True, (plot, word, by, told))
        self.assertIs(is_plot(told), True)
        days = set(telling_days(plot)) | set(telling_days(told)) | {by - 1, by, by + 1}
        turns = set(telling_turns(plot)) | set(telling_turns(told)) | {by - 1, by, by + 1}
        for turn in turns:
            for day in days:
                wanted = plainly_lifted(plot, word, by, day, turn)
                self.assertIs(plainly_at(told, day, turn), wanted, (plot, word, by, day, turn))

    def assert_all_words(self, plot, numbers):
        for word in LIFT_WORDS:
            for by in numbers:
                self.assert_lift(plot, word, by)

    def test_moved_written_out(self):
        self.assertEqual(lift(STEPPED, "moved", 2), (EMPTY, ((1, (False, (5, 9))), (4, (False, (7, 11))), (6, EMPTY))))
        self.assertEqual(lift(STEPPED, "moved", 0), STEPPED)
        self.assertEqual(lift((WEEK, ()), "moved", -10), ((False, (-7, -3)), ()))
        self.assertEqual(lift((WEEK, ()), "moved", MANY_FIGURES), ((False, (MANY_FIGURES + 3, MANY_FIGURES + 7)), ()))

    def test_ever_written_out(self):
        self.assertEqual(lift(STEPPED, "ever", 0), (EMPTY, ((1, ALL), (6, EMPTY))))
        self.assertEqual(lift((WEEK, ((0, EMPTY),)), "ever", 9), (ALL, ((0, EMPTY),)))
        self.assertEqual(lift((WEEK, ((0, LATER),)), "ever", 9), ALL_SPOTS)
        self.assertEqual(lift(NO_SPOTS, "ever", 0), NO_SPOTS)

    def test_always_written_out(self):
        self.assertEqual(lift(STEPPED, "always", 0), NO_SPOTS)
        self.assertEqual(lift((WEEK, ((0, ALL), (3, (True, (3, 4))))), "always", 9), (EMPTY, ((0, ALL), (3, EMPTY))))
        self.assertEqual(lift((ALL, ((2, WEEK),)), "always", 9), (ALL, ((2, EMPTY),)))
        self.assertEqual(lift(ALL_SPOTS, "always", 0), ALL_SPOTS)

    def test_known_written_out(self):
        self.assertEqual(lift(STEPPED, "known", 0), (EMPTY, ((1, WEEK), (4, (False, (3, 9))))))
        self.assertEqual(lift((WEEK, ((0, EMPTY), (2, LATER))), "known", 0), (WEEK, ((2, (False, (3, 9))),)))
        self.assertEqual(lift((ALL, ((0, EMPTY),)), "known", 0), ALL_SPOTS)

    def test_asof_written_out(self):
        for by, plot in (
            (-1, NO_SPOTS), (0, NO_SPOTS), (1, (EMPTY, ((1, WEEK),))), (3, (EMPTY, ((1, WEEK),))),
            (4, (EMPTY, ((1, WEEK), (4, LATER)))), (5, (EMPTY, ((1, WEEK), (4, LATER)))), (6, STEPPED), (7, STEPPED),
            (MANY_FIGURES, STEPPED), (-MANY_FIGURES, NO_SPOTS),
        ):
            self.assertEqual(lift(STEPPED, "asof", by), plot, by)
        self.assertEqual(lift((WEEK, ((0, EMPTY),)), "asof", -1), (WEEK, ()))
        self.assertEqual(lift((WEEK, ((0, EMPTY),)), "asof", 0), (WEEK, ((0, EMPTY),)))

    def test_from_written_out(self):
        for by, plot in (
            (-1, STEPPED), (0, STEPPED), (1, STEPPED), (2, (EMPTY, ((2, WEEK), (4, LATER), (6, EMPTY)))),
            (4, (EMPTY, ((4, LATER), (6, EMPTY)))), (5, (EMPTY, ((5, LATER), (6, EMPTY)))), (6, NO_SPOTS),
            (7, NO_SPOTS), (MANY_FIGURES, NO_SPOTS), (-MANY_FIGURES, STEPPED),
        ):
            self.assertEqual(lift(STEPPED, "from", by), plot, by)
        self.assertEqual(lift((WEEK, ()), "from", -3), (EMPTY, ((-3, WEEK),)))
        self.assertEqual(lift((WEEK, ((0, EMPTY),)), "from", -3), (EMPTY, ((-3, WEEK), (0, EMPTY))))
        self.assertEqual(lift((WEEK, ((0, EMPTY), (2, LATER))), "from", 0), (EMPTY, ((2, LATER),)))

    def test_all_sorts(self):
        for plot in plots_of_all_sorts():
            beside = [number for turn, reach in plot[1] for number in (turn - 1, turn, turn + 1)]
            self.assert_all_words(plot, [-MANY_FIGURES, -3, 0, 2, MANY_FIGURES] + beside)

    def test_many_by_chance(self):
        for plot in random_plots(40, 31):
            self.assert_all_words(plot, (-5, -1, 0, 1, 3, 8, FAR))

    def test_three_hundred_steps(self):
        plot = great_plot(32)
        for word in LIFT_WORDS:
            told = lift(plot, word, 7)
            self.assertIs(is_plain_plot(told), True)
        known = lift(plot, "known", 0)
        seen = {day for day in range(-60, 100) if any(plainly_at(plot, day, turn) for turn in range(-301, 301))}
        self.assertEqual({day for day in range(-60, 100) if plainly_at(known, day, FAR)}, seen)

    def test_the_others_do_not_look_at_the_number(self):
        for plot in plots_of_all_sorts():
            for word in ("ever", "always", "known"):
                told = {lift(plot, word, by) for by in (-MANY_FIGURES, -1, 0, 1, 4, FAR)}
                self.assertEqual(len(told), 1)

    def test_hangs_on_turns_up_to_it_alone(self):
        for one, other in zip(random_plots(40, 33), random_plots(40, 34)):
            mixed = (one[0], tuple(step for step in one[1] if step[0] <= 1)
                     + tuple((turn + 20, reach) for turn, reach in other[1]))
            for word in LIFT_WORDS:
                for by in (-2, 0, 1, 2, 5):
                    first, second = lift(one, word, by), lift(mixed, word, by)
                    for turn in (-FAR, -4, -3, -2, -1, 0, 1):
                        self.assertEqual(plainly_reach_at(first, turn), plainly_reach_at(second, turn))

    def test_another_word_is_refused_with_no_word(self):
        for word in NO_LIFTS:
            for plot in (NO_SPOTS, ALL_SPOTS, STEPPED):
                for by in (0, 3, -MANY_FIGURES):
                    with self.assertRaises(NoWord) as caught:
                        lift(plot, word, by)
                    self.assertIs(type(caught.exception), NoWord, word)


class Point2(unittest.TestCase):
    def test_what_was_handed_in_is_as_it_was(self):
        plots = plots_of_all_sorts()
        kept = copy.deepcopy(plots)
        for plot in plots:
            for word in LIFT_WORDS:
                lift(plot, word, 2)
        self.assertEqual(plots, kept)

import copy
import unittest

from heldwhen.errors import NoWord
from heldwhen.plots import blend_plots, days_of, is_plot, lies_at, plot_of, reach_at, turns_of
from tests.plot_samples import (
    ALL, ALL_SPOTS, EMPTY, FAR, NO_SPOTS, great_plot, is_plain_plot, plainly_at, plainly_reach_at, plots_of_all_sorts,
    random_plots, telling_spots, telling_turns,
)
from tests.samples import MANY_FIGURES, NO_WORDS, WORDS, asked, reaches_of_all_sorts, small_reaches

WEEK = (False, (3, 7))
STEPPED = (EMPTY, ((1, WEEK), (4, (False, (3, 9))), (6, EMPTY)))


class Point9ReachAt(unittest.TestCase):
    def test_written_out(self):
        for turn, reach in ((-FAR, EMPTY), (-1, EMPTY), (0, EMPTY), (1, WEEK), (2, WEEK), (3, WEEK),
                            (4, (False, (3, 9))), (5, (False, (3, 9))), (6, EMPTY), (7, EMPTY), (FAR, EMPTY)):
            self.assertEqual(reach_at(STEPPED, turn), reach, turn)

    def test_without_steps(self):
        for reach in reaches_of_all_sorts():
            for turn in (-FAR, -1, 0, 1, FAR):
                self.assertEqual(reach_at((reach, ()), turn), reach)

    def test_one_step(self):
        for at in (-5, 0, 3, MANY_FIGURES, -MANY_FIGURES):
            for ground, reach in ((EMPTY, WEEK), (WEEK, EMPTY), (ALL, EMPTY), (WEEK, ALL)):
                plot = (ground, ((at, reach),))
                told = [reach_at(plot, turn) for turn in (-FAR, at - 1, at, at + 1, FAR)]
                self.assertEqual(told, [ground, ground, reach, reach, reach])

    def test_all_sorts(self):
        for plot in plots_of_all_sorts() + random_plots(60, 1) + [great_plot(2)]:
            for turn in telling_turns(plot):
                self.assertEqual(reach_at(plot, turn), plainly_reach_at(plot, turn), (plot, turn))


class Point9LiesAt(unittest.TestCase):
    def test_written_out(self):
        spots = [(day, turn) for turn in range(-2, 9) for day in range(0, 12) if lies_at(STEPPED, day, turn)]
        wanted = [(day, turn) for turn in (1, 2, 3) for day in (3, 4, 5, 6)]
        wanted += [(day, turn) for turn in (4, 5) for day in (3, 4, 5, 6, 7, 8)]
        self.assertEqual(spots, wanted)

    def test_no_spots_and_all_spots(self):
        for day in (-FAR, -1, 0, 1, FAR):
            for turn in (-FAR, -1, 0, 1, FAR):
                self.assertIs(lies_at(NO_SPOTS, day, turn), False)
                self.assertIs(lies_at(ALL_SPOTS, day, turn), True)

    def test_the_day_comes_ahead_of_the_turn(self):
        plot = (EMPTY, ((10, WEEK),))
        self.assertIs(lies_at(plot, 3, 10), True)
        self.assertIs(lies_at(plot, 10, 3), False)

    def test_all_sorts_at_each_edge_and_step(self):
        for plot in plots_of_all_sorts() + random_plots(60, 3):
            for day, turn in telling_spots(plot):
                self.assertIs(lies_at(plot, day, turn), plainly_at(plot, day, turn), (plot, day, turn))


class Point9IsPlot(unittest.TestCase):
    def test_plots(self):
        for plot in plots_of_all_sorts() + random_plots(100, 4) + [great_plot(5), STEPPED]:
            self.assertIs(is_plot(plot), True, plot)
        for reach in reaches_of_all_sorts() + small_reaches():
            self.assertIs(is_plot((reach, ())), True, reach)

    def test_a_step_may_come_back_to_an_elder_reach(self):
        self.assertIs(is_plot((EMPTY, ((1, WEEK), (2, EMPTY), (3, WEEK)))), True)
        self.assertIs(is_plot((WEEK, ((1, EMPTY), (2, WEEK)))), True)

    def assert_none(self, things):
        for thing in things:
            self.assertIs(is_plot(thing), False, repr(thing))

    def test_a_list_in_the_place_of_a_tuple(self):
        self.assert_none([
            [EMPTY, ()], [EMPTY, ((1, WEEK),)], ([False, ()], ()), ((False, []), ()), ((False, [3, 7]), ()),
            (EMPTY, []), (EMPTY, [(1, WEEK)]), (EMPTY, ([1, WEEK],)), (EMPTY, ((1, [False, (3, 7)]),)),
            (EMPTY, ((1, (False, [3, 7])),)), (EMPTY, ((1, WEEK), [2, EMPTY])),
        ])

    def test_a_part_more_or_less(self):
        self.assert_none([
            (), (EMPTY,), (EMPTY, (), ()), (EMPTY, (), None), (EMPTY, ((1, WEEK),), ()), ((), ()), ((False,), ()),
            ((False, (), ()), ()), (EMPTY, ((1, (False,)),)), (EMPTY, ((1, (False, (3, 7), ())),)),
        ])

    def test_a_step_that_is_no_pair(self):
        for step in ((), (1,), (1, WEEK, 2), (1, WEEK, ()), None, 1, "ab", "", True, WEEK,
                     {1: WEEK, 2: WEEK}, (WEEK, 1), ((1, WEEK),), [1, WEEK]):
            self.assert_none([(EMPTY, (step,)), (EMPTY, ((0, WEEK), step)), (EMPTY, (step, (9, WEEK)))])
        self.assert_none([(EMPTY, (1, WEEK))])

    def test_steps_that_are_no_tuple(self):
        for steps in (None, 0, 1, True, "", "ab", {}, {1: WEEK}, [], set(), range(2), frozenset()):
            self.assert_none([(EMPTY, steps)])

    def test_a_turn_that_is_no_whole_number(self):
        for turn in (True, False, None, "1", "", 1.0, 0.5, (), (1,), [], {}, 3j, float("nan"), object()):
            self.assert_none([
                (EMPTY, ((turn, WEEK),)), (EMPTY, ((-5, WEEK), (turn, EMPTY))), (EMPTY, ((turn, WEEK), (9, EMPTY))),
            ])

    def test_turns_that_are_equal_or_fall(self):
        for first, second in ((1, 1), (0, 0), (2, 1), (0, -1), (MANY_FIGURES, MANY_FIGURES),
                              (MANY_FIGURES, MANY_FIGURES - 1), (FAR, -FAR)):
            self.assert_none([
                (EMPTY, ((first, WEEK), (second, EMPTY))), (EMPTY, ((first, WEEK), (second, ALL))),
                (ALL, ((-FAR - 1, EMPTY), (first, WEEK), (second, EMPTY))),
            ])
        self.assert_none([(EMPTY, ((1, WEEK), (3, EMPTY), (2, WEEK))), (EMPTY, ((2, WEEK), (1, EMPTY), (3, WEEK)))])

    def test_a_reach_equal_to_the_one_ahead(self):
        for reach in reaches_of_all_sorts():
            turned = (not reach[0], reach[1])
            self.assert_none([(reach, ((1, reach),)), (reach, ((-1, turned), (0, turned)))])
        self.assert_none([
            (EMPTY, ((1, EMPTY),)), (EMPTY, ((1, EMPTY), (2, WEEK))), (EMPTY, ((1, WEEK), (2, WEEK))),
            (EMPTY, ((1, WEEK), (2, EMPTY), (3, EMPTY))), (WEEK, ((1, EMPTY), (2, WEEK), (3, WEEK), (4, ALL))),
        ])

    def test_a_reach_that_is_none(self):
        wrong = (None, True, 0, "", (), (False,), (0, ()), (1, (3, 7)), (None, ()), (False, (7, 3)), (False, (3, 3)),
                 (False, (True,)), (False, (None,)), (False, ("3",)), (False, 3), (False, None), NO_SPOTS, [], {})
        for reach in wrong:
            self.assert_none([
                (reach, ()), (reach, ((1, WEEK),)), (EMPTY, ((1, reach),)), (EMPTY, ((1, WEEK), (2, reach))),
                (EMPTY, ((1, reach), (2, WEEK))),
            ])

    def test_anything_else(self):
        self.assert_none([
            None, True, False, 0, 1, -1, MANY_FIGURES, 1.5, "", "ab", "plot", b"ab", [], [1, 2], [EMPTY, ()], {},
            {1: 2}, {EMPTY: ()}, {EMPTY: (), WEEK: ()}, {1, 2}, object(), int, is_plot, range(2), (x for x in NO_SPOTS),
        ])
        for reach in reaches_of_all_sorts():
            self.assert_none([reach])


class Point10PlotOf(unittest.TestCase):
    def test_written_out(self):
        for ground, pairs, plot in (
            (EMPTY, [], NO_SPOTS),
            (ALL, [], ALL_SPOTS),
            (EMPTY, [(1, EMPTY)], NO_SPOTS),
            (EMPTY, [(1, EMPTY), (2, EMPTY), (5, EMPTY)], NO_SPOTS),
            (EMPTY, [(1, WEEK)], (EMPTY, ((1, WEEK),))),
            (EMPTY, [(1, EMPTY), (2, WEEK)], (EMPTY, ((2, WEEK),))),
            (EMPTY, [(1, WEEK), (2, WEEK)], (EMPTY, ((1, WEEK),))),
            (EMPTY, [(-4, WEEK), (-3, WEEK), (0, WEEK), (1, EMPTY), (9, EMPTY)], (EMPTY, ((-4, WEEK), (1, EMPTY)))),
            (WEEK, [(1, WEEK), (2, WEEK), (3, EMPTY), (4, WEEK)], (WEEK, ((3, EMPTY), (4, WEEK)))),
            (WEEK, [(1, ALL), (2, EMPTY), (3, ALL), (4, EMPTY)],
             (WEEK, ((1, ALL), (2, EMPTY), (3, ALL), (4, EMPTY)))),
        ):
            kept = copy.deepcopy(pairs)
            self.assertEqual(plot_of(ground, pairs), plot)
            self.assertEqual(pairs, kept)

    def test_a_plot_of_its_own_steps_is_itself(self):
        for plot in plots_of_all_sorts() + random_plots(60, 6):
            self.assertEqual(plot_of(plot[0], list(plot[1])), plot)

    def test_a_plot_with_the_spots_of_the_pairs(self):
        for plot in plots_of_all_sorts() + random_plots(60, 7):
            pairs = [(turn, plainly_reach_at(plot, turn)) for turn in telling_turns(plot)]
            self.assertIs(is_plain_plot(plot_of(plot[0], pairs)), True)
            self.assertEqual(plot_of(plot[0], pairs), plot)

    def test_what_is_done_to_the_pairs_later_changes_nothing(self):
        pairs = [(1, WEEK), (2, WEEK), (3, ALL)]
        plot = plot_of(EMPTY, pairs)
        pairs[0] = (0, ALL)
        pairs.clear()
        self.assertEqual(plot, (EMPTY, ((1, WEEK), (3, ALL))))


class Point10Blend(unittest.TestCase):
    def assert_blend(self, one, other, word):
        told = blend_plots(one, other, word)
        self.assertIs(is_plain_plot(told), True, (one, other, word, told))
        self.assertIs(is_plot(told), True)
        for day, turn in telling_spots(one, other):
            wanted = asked(word, plainly_at(one, day, turn), plainly_at(other, day, turn))
            self.assertIs(plainly_at(told, day, turn), wanted, (one, other, word, day, turn))
        return told

    def test_written_out(self):
        one = (EMPTY, ((1, WEEK), (4, EMPTY)))
        other = (EMPTY, ((2, (False, (5, 9))),))
        self.assertEqual(blend_plots(one, other, "both"), (EMPTY, ((2, (False, (5, 7))), (4, EMPTY))))
        self.assertEqual(blend_plots(one, other, "either"),
                         (EMPTY, ((1, WEEK), (2, (False, (3, 9))), (4, (False, (5, 9))))))
        self.assertEqual(blend_plots(one, other, "less"), (EMPTY, ((1, WEEK), (2, (False, (3, 5))), (4, EMPTY))))
        self.assertEqual(blend_plots(other, one, "less"), (EMPTY, ((2, (False, (7, 9))), (4, (False, (5, 9))))))
        self.assertEqual(blend_plots(one, other, "just"),
                         (EMPTY, ((1, WEEK), (2, (False, (3, 5, 7, 9))), (4, (False, (5, 9))))))

    def test_steps_at_the_same_turn_that_make_no_step(self):
        one = (EMPTY, ((1, WEEK), (3, EMPTY)))
        other = (WEEK, ((1, EMPTY), (3, WEEK)))
        self.assertEqual(blend_plots(one, other, "either"), (WEEK, ()))
        self.assertEqual(blend_plots(one, other, "both"), NO_SPOTS)
        self.assertEqual(blend_plots(one, other, "just"), (WEEK, ()))

    def test_equal_plots_and_plots_without_spots(self):
        for plot in plots_of_all_sorts() + random_plots(30, 8):
            self.assertEqual(blend_plots(plot, plot, "both"), plot)
            self.assertEqual(blend_plots(plot, plot, "either"), plot)
            self.assertEqual(blend_plots(plot, plot, "less"), NO_SPOTS)
            self.assertEqual(blend_plots(plot, plot, "just"), NO_SPOTS)
            self.assertEqual(blend_plots(plot, NO_SPOTS, "either"), plot)
            self.assertEqual(blend_plots(plot, NO_SPOTS, "less"), plot)
            self.assertEqual(blend_plots(NO_SPOTS, plot, "less"), NO_SPOTS)
            self.assertEqual(blend_plots(NO_SPOTS, plot, "just"), plot)
            self.assertEqual(blend_plots(plot, ALL_SPOTS, "both"), plot)
            self.assertEqual(blend_plots(ALL_SPOTS, plot, "either"), ALL_SPOTS)

    def test_all_sorts(self):
        for one in plots_of_all_sorts():
            for other in plots_of_all_sorts():
                for word in WORDS:
                    self.assert_blend(one, other, word)

    def test_many_by_chance(self):
        plots = random_plots(120, 9)
        for one, other in zip(plots, plots[1:]):
            for word in WORDS:
                self.assert_blend(one, other, word)

    def test_three_hundred_steps(self):
        one, other = great_plot(10), great_plot(11)
        told = blend_plots(one, other, "both")
        self.assertIs(is_plain_plot(told), True)
        for day, turn in telling_spots(one, other)[::13]:
            self.assertIs(plainly_at(told, day, turn), plainly_at(one, day, turn) and plainly_at(other, day, turn))

    def test_another_word_is_refused_with_no_word(self):
        pairs = ((NO_SPOTS, NO_SPOTS), (ALL_SPOTS, NO_SPOTS), (NO_SPOTS, ALL_SPOTS), (STEPPED, STEPPED),
                 (NO_SPOTS, STEPPED), (STEPPED, ALL_SPOTS))
        for word in NO_WORDS + ("moved", "from", "is"):
            for one, other in pairs:
                with self.assertRaises(NoWord) as caught:
                    blend_plots(one, other, word)
                self.assertIs(type(caught.exception), NoWord, word)


class Point12TurnsAndDays(unittest.TestCase):
    def test_written_out(self):
        for plot, turns, days in (
            (NO_SPOTS, [], []),
            (ALL_SPOTS, [], []),
            ((WEEK, ()), [], [3, 7]),
            (STEPPED, [1, 4, 6], [3, 7, 9]),
            (((True, (9, 12)), ((-3, (False, (0, 9))), (0, (True, (-5,))), (4, (False, (0, 12))))),
             [-3, 0, 4], [-5, 0, 9, 12]),
            ((EMPTY, ((1, (False, (50,))), (2, (False, (-50, 3))), (7, EMPTY))), [1, 2, 7], [-50, 3, 50]),
            ((EMPTY, ((-MANY_FIGURES, (False, (MANY_FIGURES,))),)), [-MANY_FIGURES], [MANY_FIGURES]),
        ):
            self.assertEqual(turns_of(plot), turns)
            self.assertEqual(days_of(plot), days)

    def test_all_sorts(self):
        for plot in plots_of_all_sorts() + random_plots(60, 12) + [great_plot(13)]:
            turns, days = turns_of(plot), days_of(plot)
            self.assertIs(type(turns), list)
            self.assertIs(type(days), list)
            self.assertEqual(turns, [turn for turn, reach in plot[1]])
            wanted = set(plot[0][1])
            for turn, reach in plot[1]:
                wanted |= set(reach[1])
            self.assertEqual(days, sorted(wanted))


class Point2(unittest.TestCase):
    def test_what_was_handed_in_is_as_it_was(self):
        plots = plots_of_all_sorts()
        kept = copy.deepcopy(plots)
        for one in plots:
            reach_at(one, 1), lies_at(one, 1, 1), is_plot(one), turns_of(one), days_of(one)
            for other in plots:
                for word in WORDS:
                    blend_plots(one, other, word)
        self.assertEqual(plots, kept)

    def test_things_that_are_no_plot_are_as_they_were(self):
        things = [[EMPTY, []], (EMPTY, [(1, WEEK), (1, EMPTY)]), ([False, [3]], ()), {EMPTY: [1]}]
        kept = copy.deepcopy(things)
        for thing in things:
            is_plot(thing)
        self.assertEqual(things, kept)

    def test_a_list_that_was_told_is_the_askers_own(self):
        for asks in (turns_of, days_of):
            told = asks(STEPPED)
            as_told = list(told)
            other = asks(STEPPED)
            self.assertIsNot(told, other)
            told.append(99)
            told.reverse()
            self.assertEqual(other, as_told)
            told.clear()
            self.assertEqual(asks(STEPPED), as_told)

import copy
import unittest

from heldwhen.errors import NoWord
from heldwhen.reaches import blend, is_reach, lies_in, moved_by, parting, runs_of, stretch_of
from tests.samples import (
    MANY_FIGURES, NO_WORDS, WORDS, asked, plainly_lies_in, reaches_of_all_sorts, small_reaches, telling_numbers,
)

EMPTY = (False, ())
ALL = (True, ())


class Point5LiesIn(unittest.TestCase):
    def test_the_documents_own(self):
        inside = [number for number in range(-20, 20) if lies_in((False, (3, 7)), number)]
        self.assertEqual(inside, [3, 4, 5, 6])
        for number in telling_numbers(EMPTY):
            self.assertIs(lies_in(EMPTY, number), False)
            self.assertIs(lies_in(ALL, number), True)

    def test_one_edge(self):
        for number, truth in ((-1, False), (4, False), (5, True), (6, True), (10 ** 59, True), (-10 ** 59, False)):
            self.assertIs(lies_in((False, (5,)), number), truth, number)
            self.assertIs(lies_in((True, (5,)), number), not truth, number)

    def test_many_edges(self):
        reach = (True, (-6, -2, 0, 1, 9))
        inside = [number for number in range(-9, 13) if lies_in(reach, number)]
        self.assertEqual(inside, [-9, -8, -7, -2, -1, 1, 2, 3, 4, 5, 6, 7, 8])

    def test_neighbouring_edges(self):
        reach = (False, (3, 4, 5, 6))
        self.assertEqual([lies_in(reach, number) for number in range(2, 8)], [False, True, False, True, False, False])

    def test_edges_of_many_figures(self):
        big = MANY_FIGURES
        reach = (False, (-big, big))
        told = [lies_in(reach, number) for number in (-big - 1, -big, -big + 1, 0, big - 1, big, big + 1)]
        self.assertEqual(told, [False, True, True, True, True, False, False])

    def test_all_sorts_at_each_edge_and_beside(self):
        for reach in reaches_of_all_sorts() + small_reaches():
            for number in telling_numbers(reach):
                self.assertIs(lies_in(reach, number), plainly_lies_in(reach, number), (reach, number))


class Point5IsReach(unittest.TestCase):
    def test_reaches(self):
        for reach in reaches_of_all_sorts() + small_reaches():
            self.assertIs(is_reach(reach), True, reach)

    def assert_none(self, things):
        for thing in things:
            self.assertIs(is_reach(thing), False, repr(thing))

    def test_what_is_no_pair(self):
        self.assert_none([
            (), (False,), (True,), (False, (), ()), (False, (1,), None), [False, ()], [True, (1, 2)],
            {False: ()}, {"first": False, "edges": ()}, frozenset([False, ()]), (False, 3, 7),
        ])

    def test_a_first_that_is_no_truth(self):
        self.assert_none([(first, ()) for first in (0, 1, -1, None, "", "True", (), (True,), [], {}, 0.0, 1.0)])
        self.assert_none([(0, (3, 7)), (1, (3, 7)), ((), False), ((3, 7), False)])

    def test_edges_that_are_no_tuple(self):
        self.assert_none([(False, edges) for edges in ([], [3, 7], {}, {3: 7}, {3, 7}, None, 3, "", "37", range(3), True)])

    def test_edges_not_rising(self):
        self.assert_none([
            (False, (3, 3)), (True, (7, 3)), (False, (1, 2, 2)), (False, (1, 1, 2)), (True, (1, 3, 2)),
            (True, (2, 1, 3)), (False, (0, -1)), (False, (5, 6, 7, 6)), (True, (0, 0)),
            (False, (MANY_FIGURES, MANY_FIGURES)), (False, (MANY_FIGURES, MANY_FIGURES - 1)),
            (False, (1, 5, 1)), (False, (1, 2, 3, 0)),
        ])

    def test_an_edge_that_is_no_whole_number(self):
        wrong = (True, False, None, "3", "", 3.0, 2.5, (), (3,), [], [3], {}, {3: 3}, 3j, object(), float("nan"))
        for edge in wrong:
            self.assert_none([
                (False, (edge,)), (True, (edge,)), (False, (-5, edge)), (False, (edge, 9)), (True, (-5, edge, 9)),
                (False, (edge, edge)),
            ])
        self.assert_none([(False, (False, True)), (False, (False, 1)), (False, (0, True))])

    def test_anything_else(self):
        self.assert_none([
            None, True, False, 0, 1, 3, -1, MANY_FIGURES, 1.5, "", "reach", "in", "ab", (0, 0), b"", b"ab", [], [1, 2],
            {}, {1: 2, 3: 4}, {1, 2}, object(), int, is_reach, range(2), ((False, ()), ()), ((False, ()), (False, ())),
            (None, None), ("", ""), [False, (1, 2)], (x for x in (False, ())),
        ])


class Point6(unittest.TestCase):
    def test_both_ends_given(self):
        self.assertEqual(stretch_of(3, 7), (False, (3, 7)))
        self.assertEqual(stretch_of(-7, -3), (False, (-7, -3)))
        self.assertEqual(stretch_of(-1, 0), (False, (-1, 0)))
        self.assertEqual(stretch_of(0, 1), (False, (0, 1)))
        self.assertEqual(stretch_of(-MANY_FIGURES, MANY_FIGURES), (False, (-MANY_FIGURES, MANY_FIGURES)))

    def test_open_ends(self):
        for number in (-MANY_FIGURES, -5, -1, 0, 1, 5, MANY_FIGURES):
            self.assertEqual(stretch_of(None, number), (True, (number,)))
            self.assertEqual(stretch_of(number, None), (False, (number,)))
        self.assertEqual(stretch_of(None, None), ALL)

    def test_high_not_above_low(self):
        for low, high in ((3, 3), (0, 0), (-2, -2), (7, 3), (0, -1), (1, 0), (-3, -7),
                          (MANY_FIGURES, MANY_FIGURES), (MANY_FIGURES, -MANY_FIGURES)):
            self.assertEqual(stretch_of(low, high), EMPTY)

    def test_the_one_reach_of_that_set(self):
        ends = (None, -3, -2, -1, 0, 1, 2, 3)
        for low in ends:
            for high in ends:
                reach = stretch_of(low, high)
                self.assertIs(is_reach(reach), True)
                for number in list(range(-6, 7)) + [-10 ** 40, 10 ** 40]:
                    inside = (low is None or low <= number) and (high is None or number < high)
                    self.assertIs(lies_in(reach, number), inside, (low, high, number))


class Point7Blend(unittest.TestCase):
    def assert_blend(self, one, other, word):
        told = blend(one, other, word)
        self.assertIs(is_reach(told), True, (one, other, word, told))
        for number in telling_numbers(one, other):
            wanted = asked(word, plainly_lies_in(one, number), plainly_lies_in(other, number))
            self.assertIs(plainly_lies_in(told, number), wanted, (one, other, word, number))
        return told

    def test_written_out(self):
        one, other = (False, (1, 5)), (False, (3, 8))
        self.assertEqual(blend(one, other, "both"), (False, (3, 5)))
        self.assertEqual(blend(one, other, "either"), (False, (1, 8)))
        self.assertEqual(blend(one, other, "less"), (False, (1, 3)))
        self.assertEqual(blend(other, one, "less"), (False, (5, 8)))
        self.assertEqual(blend(one, other, "just"), (False, (1, 3, 5, 8)))

    def test_edges_in_common(self):
        self.assertEqual(blend((False, (1, 5)), (False, (5, 9)), "either"), (False, (1, 9)))
        self.assertEqual(blend((False, (1, 5)), (False, (5, 9)), "both"), EMPTY)
        self.assertEqual(blend((False, (1, 5)), (False, (1, 9)), "just"), (False, (5, 9)))
        self.assertEqual(blend((True, (5,)), (False, (5,)), "either"), ALL)
        self.assertEqual(blend((True, (5,)), (False, (5,)), "just"), ALL)

    def test_equal_ones_and_ones_without_edges(self):
        for reach in reaches_of_all_sorts():
            self.assertEqual(blend(reach, reach, "both"), reach)
            self.assertEqual(blend(reach, reach, "either"), reach)
            self.assertEqual(blend(reach, reach, "less"), EMPTY)
            self.assertEqual(blend(reach, reach, "just"), EMPTY)
            self.assertEqual(blend(reach, EMPTY, "either"), reach)
            self.assertEqual(blend(reach, EMPTY, "less"), reach)
            self.assertEqual(blend(EMPTY, reach, "less"), EMPTY)
            self.assertEqual(blend(reach, ALL, "both"), reach)
            self.assertEqual(blend(reach, ALL, "just"), (not reach[0], reach[1]))

    def test_each_two_small_reaches(self):
        for one in small_reaches((-3, -2, 0, 4)):
            for other in small_reaches((-3, 0, 1)):
                for word in WORDS:
                    self.assert_blend(one, other, word)
                    self.assert_blend(other, one, word)

    def test_all_sorts(self):
        for one in reaches_of_all_sorts():
            for other in reaches_of_all_sorts():
                for word in WORDS:
                    self.assert_blend(one, other, word)

    def test_a_blend_of_a_blend(self):
        one, other, third = (False, (-2, 6)), (True, (0, 3)), (False, (1, 3, 5, 9))
        for word in WORDS:
            for second_word in WORDS:
                told = self.assert_blend(blend(one, other, word), third, second_word)
                for number in telling_numbers(one, other, third):
                    inner = asked(word, plainly_lies_in(one, number), plainly_lies_in(other, number))
                    wanted = asked(second_word, inner, plainly_lies_in(third, number))
                    self.assertIs(lies_in(told, number), wanted)

    def test_another_word_is_refused_with_no_word(self):
        pairs = ((EMPTY, EMPTY), (ALL, ALL), (EMPTY, ALL), (ALL, EMPTY), ((False, (1, 2)), (True, (2,))))
        for word in NO_WORDS:
            for one, other in pairs:
                with self.assertRaises(NoWord) as caught:
                    blend(one, other, word)
                self.assertIs(type(caught.exception), NoWord, word)


class Point7Moved(unittest.TestCase):
    def test_written_out(self):
        self.assertEqual(moved_by((False, (3, 7)), 2), (False, (5, 9)))
        self.assertEqual(moved_by((True, (3, 7)), -5), (True, (-2, 2)))
        self.assertEqual(moved_by((True, (-1, 0, 4)), 0), (True, (-1, 0, 4)))
        self.assertEqual(moved_by((False, (3,)), MANY_FIGURES), (False, (MANY_FIGURES + 3,)))

    def test_has_the_numbers_that_less_by_lie_in_the_reach(self):
        for reach in reaches_of_all_sorts() + small_reaches():
            for by in (1, 4, -1, -9, 0, MANY_FIGURES, -MANY_FIGURES):
                told = moved_by(reach, by)
                self.assertIs(is_reach(told), True)
                for number in telling_numbers(reach, told):
                    self.assertIs(plainly_lies_in(told, number), plainly_lies_in(reach, number - by))
                self.assertEqual(moved_by(told, -by), reach)


class Point8Runs(unittest.TestCase):
    def test_written_out(self):
        for reach, runs in (
            (EMPTY, []),
            (ALL, [(None, None)]),
            ((True, (4,)), [(None, 4)]),
            ((False, (4,)), [(4, None)]),
            ((True, (0,)), [(None, 0)]),
            ((False, (0,)), [(0, None)]),
            ((False, (3, 7)), [(3, 7)]),
            ((True, (3, 7)), [(None, 3), (7, None)]),
            ((False, (-3, -2, 0, 5)), [(-3, -2), (0, 5)]),
            ((False, (-3, 0, 5)), [(-3, 0), (5, None)]),
            ((True, (-3, 0, 5)), [(None, -3), (0, 5)]),
            ((True, (1, 2, 3, 4)), [(None, 1), (2, 3), (4, None)]),
            ((False, (-MANY_FIGURES, MANY_FIGURES)), [(-MANY_FIGURES, MANY_FIGURES)]),
        ):
            self.assertEqual(runs_of(reach), runs, reach)

    def test_a_list_of_pairs(self):
        for reach in reaches_of_all_sorts() + small_reaches():
            runs = runs_of(reach)
            self.assertIs(type(runs), list)
            for run in runs:
                self.assertIs(type(run), tuple)
                self.assertEqual(len(run), 2)

    def test_the_longest_stretches_make_the_reach_again(self):
        for reach in reaches_of_all_sorts() + small_reaches():
            runs = runs_of(reach)
            whole = EMPTY
            for low, high in runs:
                whole = blend(whole, stretch_of(low, high), "either")
            self.assertEqual(whole, reach)
            for (low, high), (next_low, next_high) in zip(runs, runs[1:]):
                self.assertLess(high, next_low)


class Point8Parting(unittest.TestCase):
    def test_alike(self):
        for reach in reaches_of_all_sorts() + small_reaches():
            self.assertIsNone(parting(reach, (reach[0], tuple(list(reach[1])))))

    def test_the_least_number(self):
        for one, other, least in (
            ((False, (3, 7)), EMPTY, 3),
            ((False, (3, 7)), (False, (3, 9)), 7),
            ((False, (0, 1)), EMPTY, 0),
            ((False, (-5, 9)), (False, (-2, 9)), -5),
            ((True, (4,)), (True, (6,)), 4),
            ((False, (4,)), (False, (6,)), 4),
            ((True, (1, 2)), ALL, 1),
            ((False, (MANY_FIGURES,)), EMPTY, MANY_FIGURES),
        ):
            self.assertEqual(parting(one, other), least, (one, other))
            self.assertEqual(parting(other, one), least, (one, other))

    def test_down_without_end(self):
        for one, other, last in (
            ((True, (5,)), EMPTY, 4),
            ((True, (0,)), EMPTY, -1),
            ((True, (1,)), EMPTY, 0),
            ((False, (5,)), ALL, 4),
            ((True, (3, 7)), (False, (5, 7)), 2),
            ((True, (3, 7)), (False, (3, 8)), 6),
            ((True, (-MANY_FIGURES,)), EMPTY, -MANY_FIGURES - 1),
        ):
            self.assertEqual(parting(one, other), last, (one, other))
            self.assertEqual(parting(other, one), last, (one, other))

    def test_all_numbers(self):
        for reach in reaches_of_all_sorts():
            turned = (not reach[0], reach[1])
            told = parting(reach, turned)
            self.assertEqual(told, 0)
            self.assertIs(type(told), int)

    def test_each_two_small_reaches_both_orders(self):
        for one in small_reaches():
            for other in small_reaches():
                told = parting(one, other)
                self.assertEqual(told, parting(other, one))
                self.assertEqual(told, self.plainly_parting(one, other), (one, other))

    def plainly_parting(self, one, other):
        apart = [number for number in range(-9, 10)
                 if plainly_lies_in(one, number) != plainly_lies_in(other, number)]
        if not apart:
            return None
        if apart[0] > -9:
            return apart[0]
        if len(apart) == 19:
            return 0
        return next(number for number in range(-9, 10) if number + 1 not in apart)


class Point2(unittest.TestCase):
    def test_what_was_handed_in_is_as_it_was(self):
        for one in reaches_of_all_sorts():
            for other in reaches_of_all_sorts():
                kept = copy.deepcopy((one, other))
                lies_in(one, 3), is_reach(one), moved_by(one, 4), runs_of(one), parting(one, other)
                for word in WORDS:
                    blend(one, other, word)
                self.assertEqual((one, other), kept)

    def test_things_that_are_no_reach_are_as_they_were(self):
        things = [[False, (1, 2)], (False, [2, 1]), (True, {1: 2}), {False: [1]}, [[False], [1, 2]]]
        kept = copy.deepcopy(things)
        for thing in things:
            is_reach(thing)
        self.assertEqual(things, kept)

    def test_no_answer_of_is_reach_is_kept(self):
        edges = [1, 2]
        thing = (False, edges)
        self.assertIs(is_reach(thing), False)
        listed = [False, ()]
        self.assertIs(is_reach(listed), False)
        self.assertIs(is_reach(tuple(listed)), True)
        self.assertIs(is_reach((False, tuple(edges))), True)

    def test_a_list_that_was_told_is_the_askers_own(self):
        for reach in reaches_of_all_sorts():
            told = runs_of(reach)
            as_told = list(told)
            other = runs_of(reach)
            self.assertIsNot(told, other)
            told.append((1, 2))
            told.reverse()
            self.assertEqual(other, as_told)
            told.clear()
            self.assertEqual(runs_of(reach), as_told)

    def test_a_list_that_was_told_stays_as_it_is(self):
        told = runs_of((True, (3, 7)))
        runs_of((False, (1, 2)))
        blend((True, (3, 7)), ALL, "just")
        self.assertEqual(told, [(None, 3), (7, None)])

    def test_numbers_of_sixty_figures(self):
        most = 10 ** 60 - 1
        self.assertEqual(runs_of(stretch_of(-most, most)), [(-most, most)])
        self.assertEqual(moved_by((False, (most,)), most), (False, (2 * most,)))
        self.assertIs(lies_in((False, (most,)), most), True)
        self.assertIs(lies_in((False, (most,)), most - 1), False)
        self.assertEqual(parting((True, (-most,)), EMPTY), -10 ** 60)
        self.assertEqual(blend((False, (-most, most)), (False, (most - 1,)), "both"), (False, (most - 1, most)))

import copy
import inspect
import random
import unittest

from heldwhen.shelf import Shelf

TEXTS = ("a", "tell 1 a - - 1 .", "two words", "", " ", "row\nwith an end", "\u00e4\u2028", "x" * 300, "a")
STROKES = [(0, "one"), (1, "two"), (0, "three"), (2, "four"), (1, None), (0, "five"), (1, "six"), (0, None),
           (0, "seven"), (2, ""), (2, "eight"), (2, None), (1, "nine")]


def do(shelf, strokes):
    for drawer, text in strokes:
        if text is None:
            shelf.clear(drawer)
        else:
            shelf.put(drawer, text)
    return shelf


def rows_of(shelf):
    return [shelf.rows(drawer) for drawer in (0, 1, 2)]


def plainly_done(first, strokes):
    """What is in the drawers behind the strokes."""
    found = copy.deepcopy(first)
    for drawer, text in strokes:
        found[drawer] = found[drawer] + [text] if text is not None else []
    return found


def plainly_fallen(first, strokes, many, signs):
    found = plainly_done(first, strokes[:many])
    if many < len(strokes) and strokes[many][1] is not None and strokes[many][1][:signs]:
        found[strokes[many][0]].append(strokes[many][1][:signs])
    return found


def random_strokes(seed, many):
    chance = random.Random(seed)
    return [(chance.randint(0, 2), None if chance.random() < 0.2 else chance.choice(TEXTS)) for place in range(many)]


class AShelf(unittest.TestCase):
    def test_at_first_it_is_empty(self):
        shelf = Shelf()
        self.assertEqual(rows_of(shelf), [[], [], []])
        self.assertEqual(shelf.strokes(), [])

    def test_strokes(self):
        shelf = Shelf()
        for many, (drawer, text) in enumerate(STROKES, 1):
            told = shelf.clear(drawer) if text is None else shelf.put(drawer, text)
            self.assertIsNone(told)
            self.assertEqual(rows_of(shelf), plainly_done([[], [], []], STROKES[:many]))
            self.assertEqual(shelf.strokes(), STROKES[:many])

    def test_written_out(self):
        shelf = do(Shelf(), STROKES)
        self.assertEqual(rows_of(shelf), [["seven"], ["six", "nine"], []])

    def test_by_chance(self):
        for seed in range(231, 241):
            strokes = random_strokes(seed, 25)
            shelf = do(Shelf(), strokes)
            self.assertEqual(rows_of(shelf), plainly_done([[], [], []], strokes))
            self.assertEqual(shelf.strokes(), strokes)
            self.assertTrue(all(type(stroke) is tuple for stroke in shelf.strokes()))

    def test_an_empty_drawer_cleared_is_a_stroke(self):
        shelf = do(Shelf(), [(1, None), (1, None)])
        self.assertEqual(shelf.strokes(), [(1, None), (1, None)])
        self.assertEqual(rows_of(shelf), [[], [], []])

    def test_an_empty_text_is_a_row(self):
        self.assertEqual(do(Shelf(), [(0, ""), (0, "")]).rows(0), ["", ""])

    def test_two_shelves_share_nothing(self):
        one, other = Shelf(), Shelf()
        do(one, STROKES)
        self.assertEqual(rows_of(other), [[], [], []])
        self.assertEqual(other.strokes(), [])


class AFall(unittest.TestCase):
    def test_written_out(self):
        shelf = do(Shelf(), [(0, "one"), (1, "two"), (0, None), (2, "three")])
        for many, signs, rows in (
            (0, 0, [[], [], []]), (0, 2, [["on"], [], []]), (0, 3, [["one"], [], []]), (0, 9, [["one"], [], []]),
            (1, 0, [["one"], [], []]), (1, 1, [["one"], ["t"], []]), (2, 0, [["one"], ["two"], []]),
            (2, 5, [["one"], ["two"], []]), (3, 0, [[], ["two"], []]), (3, 4, [[], ["two"], ["thre"]]),
            (4, 0, [[], ["two"], ["three"]]), (4, 7, [[], ["two"], ["three"]]),
        ):
            self.assertEqual(rows_of(shelf.fallen(many, signs)), rows, (many, signs))

    def test_behind_each_number_of_strokes(self):
        for strokes in [STROKES, []] + [random_strokes(seed, 14) for seed in range(241, 247)]:
            shelf = do(Shelf(), strokes)
            for many in range(len(strokes) + 1):
                for signs in (0, 1, 2, 3, 4, 5, 6, 299, 300, 301, 10 ** 30):
                    fell = shelf.fallen(many, signs)
                    self.assertIsInstance(fell, Shelf)
                    self.assertEqual(rows_of(fell), plainly_fallen([[], [], []], strokes, many, signs))
                    self.assertEqual(fell.strokes(), [])
            self.assertEqual(shelf.strokes(), strokes)
            self.assertEqual(rows_of(shelf), plainly_done([[], [], []], strokes))

    def test_a_fall_of_a_fallen_shelf(self):
        chance = random.Random(247)
        for seed in range(248, 268):
            shelf, first = Shelf(), [[], [], []]
            for fall in range(4):
                strokes = random_strokes(10 * seed + fall, 8)
                do(shelf, strokes)
                self.assertEqual(shelf.strokes(), strokes)
                many, signs = chance.randint(0, 8), chance.choice((0, 1, 3, 500))
                shelf, first = shelf.fallen(many, signs), plainly_fallen(first, strokes, many, signs)
                self.assertEqual(rows_of(shelf), first)
                self.assertEqual(shelf.strokes(), [])

    def test_a_fall_without_strokes_is_what_was_there_when_it_was_made(self):
        fell = do(Shelf(), STROKES).fallen(5, 3)
        before = rows_of(fell)
        do(fell, STROKES)
        self.assertEqual(rows_of(fell.fallen(0, 0)), before)
        self.assertEqual(rows_of(fell.fallen(0, 0).fallen(0, 7)), before)

    def test_neither_ones_later_strokes_show_in_the_other(self):
        elder = do(Shelf(), STROKES)
        fell = elder.fallen(6, 2)
        elder_before, fell_before = rows_of(elder), rows_of(fell)
        do(fell, [(0, "later"), (1, "later"), (2, None)])
        self.assertEqual(rows_of(elder), elder_before)
        self.assertEqual(elder.strokes(), STROKES)
        self.assertEqual(rows_of(elder.fallen(6, 2)), fell_before)
        fell = elder.fallen(6, 2)
        do(elder, [(0, "later"), (1, "later"), (2, None), (0, None)])
        self.assertEqual(rows_of(fell), fell_before)
        self.assertEqual(fell.strokes(), [])
        self.assertEqual(rows_of(fell.fallen(0, 0)), fell_before)

    def test_two_falls_share_nothing(self):
        elder = do(Shelf(), STROKES)
        one, other = elder.fallen(3, 0), elder.fallen(3, 0)
        before = rows_of(other)
        do(one, [(0, "later"), (1, None)])
        self.assertEqual(rows_of(other), before)


class Point2(unittest.TestCase):
    def test_what_was_told_is_the_askers_own(self):
        for shelf in (do(Shelf(), STROKES), do(do(Shelf(), STROKES).fallen(6, 2), STROKES[:3])):
            rows, strokes, fell = rows_of(shelf), shelf.strokes(), rows_of(shelf.fallen(2, 1))
            for drawer in (0, 1, 2):
                told = shelf.rows(drawer)
                self.assertIsNot(told, shelf.rows(drawer))
                told.append("more")
                told.reverse()
                self.assertEqual(rows_of(shelf), rows)
                told.clear()
            told = shelf.strokes()
            self.assertIsNot(told, shelf.strokes())
            told.append((0, None))
            told.reverse()
            self.assertEqual(shelf.strokes(), strokes)
            told.clear()
            self.assertEqual(rows_of(shelf), rows)
            self.assertEqual(shelf.strokes(), strokes)
            self.assertEqual(rows_of(shelf.fallen(2, 1)), fell)

    def test_nothing_later_changes_what_was_told(self):
        shelf = do(Shelf(), STROKES)
        told = [shelf.rows(0), shelf.rows(1), shelf.rows(2), shelf.strokes()]
        as_told = copy.deepcopy(told)
        do(shelf, STROKES)
        self.assertEqual(told, as_told)

    def test_the_interface(self):
        self.assertEqual(list(inspect.signature(Shelf).parameters), [])
        for name, wanted in (("put", ["drawer", "text"]), ("clear", ["drawer"]), ("rows", ["drawer"]), ("strokes", []),
                             ("fallen", ["many", "signs"])):
            self.assertEqual(list(inspect.signature(getattr(Shelf, name)).parameters), ["self"] + wanted)

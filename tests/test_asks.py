import copy
import inspect
import itertools

from heldwhen import asks
from heldwhen.asks import width_of
from heldwhen.errors import NoColumn, NoTable, NoWidth, NoWord
from tests.ask_samples import ASKS_OF_ALL_KINDS, LONE, PRICE, SEEN, STOCK, chain_of, random_asks
from tests.plot_samples import FAR, LIFT_WORDS, NO_LIFTS
from tests.samples import NO_WORDS, WORDS
from tests.table_samples import TableCase
from tests.telling_samples import NO_NAMES, SHAPES

NOTHING = ("table", "nothing")
# Each has its one fault alone.
FAULTS = {
    NoTable: NOTHING,
    NoColumn: ("twins", STOCK, 0, 2),
    NoWidth: ("joined", STOCK, PRICE, "both"),
    NoWord: ("lifted", STOCK, "lifted", 0),
}
NO_COLUMNS = (-1, -2, -3, 2, 3, 8, FAR, -FAR)
NO_PICKS = NO_WORDS + tuple(WORDS) + LIFT_WORDS + ("IS", "is ", " is", "under\n", "Over", "ove", "=")

# Each kind round a part, without a fault of its own where the part has two columns.
ROUND_ONE = [
    lambda part: ("pick", part, 0, "is", 1), lambda part: ("twins", part, 0, 1), lambda part: ("columns", part, (1,)),
    lambda part: ("counted", part, (0, 0)), lambda part: ("summed", part, (), 1),
    lambda part: ("lifted", part, "moved", 1),
]
ROUND_TWO = [
    lambda one, other: ("joined", one, other, "both"), lambda one, other: ("matched", one, other, ()),
    lambda one, other: ("matched", one, other, ((0, 1), (1, 0))),
]
# The same with faults of their own.
FAULTY_ROUND_ONE = [
    lambda part: ("pick", part, 99, "is", 1), lambda part: ("pick", part, 0, "both", 1),
    lambda part: ("pick", part, -1, "both", 1), lambda part: ("twins", part, -1, 99),
    lambda part: ("columns", part, (99,)), lambda part: ("counted", part, (-1,)),
    lambda part: ("summed", part, (), 99), lambda part: ("summed", part, (99,), 0),
    lambda part: ("lifted", part, "is", 1),
]
FAULTY_ROUND_TWO = [
    lambda one, other: ("joined", one, other, "moved"), lambda one, other: ("matched", one, other, ((99, 0),)),
    lambda one, other: ("matched", one, other, ((0, -1),)),
    lambda one, other: ("joined", ("columns", one, ()), other, "moved"),
]


class Widths(TableCase):
    def assert_width(self, ask, width, shapes=SHAPES):
        told = width_of(shapes, ask)
        self.assertEqual(told, width, ask)
        self.assertIs(type(told), int)

    def test_each_kind(self):
        for ask, width in (
            (LONE, 1), (STOCK, 2), (PRICE, 3), (("table", "abcdefgh"), 8), (("table", "a"), 1),
            (("pick", STOCK, 1, "is", 5), 2), (("pick", PRICE, 0, "under", 5), 3), (("pick", LONE, 0, "over", 5), 1),
            (("twins", PRICE, 0, 2), 3), (("twins", LONE, 0, 0), 1),
            (("columns", PRICE, ()), 0), (("columns", PRICE, (2,)), 1), (("columns", LONE, (0, 0, 0, 0)), 4),
            (("columns", PRICE, (2, 0, 1)), 3),
            (("joined", STOCK, SEEN, "both"), 2), (("joined", STOCK, SEEN, "either"), 2),
            (("joined", PRICE, PRICE, "less"), 3), (("joined", LONE, ("table", "a"), "just"), 1),
            (("matched", STOCK, PRICE, ()), 5), (("matched", PRICE, STOCK, ((2, 1),)), 5),
            (("matched", LONE, ("table", "abcdefgh"), ((0, 7), (0, 0), (0, 7))), 9),
            (("counted", PRICE, ()), 1), (("counted", PRICE, (2, 2)), 3), (("counted", PRICE, (0, 1, 2)), 4),
            (("summed", PRICE, (), 2), 1), (("summed", LONE, (0, 0, 0), 0), 4), (("summed", STOCK, (0,), 1), 2),
            *[(("lifted", PRICE, word, 4), 3) for word in LIFT_WORDS],
        ):
            self.assert_width(ask, width)

    def test_one_in_another(self):
        for ask, width in (
            (("pick", ("matched", STOCK, PRICE, ()), 4, "is", 5), 5),
            (("columns", ("counted", STOCK, ()), (0, 0)), 2),
            (("joined", ("columns", PRICE, (0, 1)), ("counted", STOCK, (0,)), "less"), 2),
            (("joined", ("columns", PRICE, ()), ("columns", LONE, ()), "just"), 0),
            (("matched", ("columns", PRICE, ()), ("columns", LONE, ()), ()), 0),
            (("counted", ("columns", PRICE, ()), ()), 1),
            (("lifted", ("lifted", ("columns", STOCK, ()), "known", 0), "from", 3), 0),
            (("twins", ("summed", PRICE, (0, 1), 2), 2, 0), 3),
            (("matched", ("matched", STOCK, STOCK, ()), ("matched", STOCK, STOCK, ()), ((3, 3),)), 8),
        ):
            self.assert_width(ask, width)

    def test_by_chance(self):
        for ask, width in random_asks(400, 131, 7):
            self.assert_width(ask, width)
        for ask in ASKS_OF_ALL_KINDS:
            self.assertGreaterEqual(width_of(SHAPES, ask), 0)

    def test_twenty_in_one_another(self):
        for deep in (1, 2, 19, 20):
            self.assert_width(chain_of(deep), 2)

    def test_the_first_columns_and_the_last(self):
        wide = ("table", "abcdefgh")
        for ask in (("pick", wide, 7, "is", 0), ("twins", wide, 7, 0), ("twins", wide, 0, 7),
                    ("matched", wide, LONE, ((7, 0),)), ("matched", LONE, wide, ((0, 7),)),
                    ("columns", wide, tuple(range(8))), ("summed", wide, (7, 0), 7), ("counted", wide, (7,))):
            self.assertGreater(width_of(SHAPES, ask), 0)

    def test_by_the_shapes_handed_in(self):
        self.assert_width(STOCK, 5, [("stock", 0, 5)])
        self.assert_width(("pick", STOCK, 4, "is", 0), 5, [("other", 1, 1), ("stock", 5, 5)])
        self.assert_refused(NoColumn, lambda: width_of([("stock", 2, 4)], ("pick", STOCK, 4, "is", 0)))
        self.assert_refused(NoTable, lambda: width_of([], STOCK))


class Refusals(TableCase):
    def assert_no(self, refusal, ask):
        self.assert_refused(refusal, lambda: width_of(SHAPES, ask))
        # The same within others that have no fault themselves.
        for around in (lambda part: ("lifted", part, "ever", 0), lambda part: ("counted", part, ()),
                       lambda part: ("matched", part, STOCK, ()), lambda part: ("matched", STOCK, part, ()),
                       lambda part: ("columns", ("columns", ("matched", part, part, ()), ()), ())):
            self.assert_refused(refusal, lambda: width_of(SHAPES, around(ask)))

    def test_no_table(self):
        for name in NO_NAMES:
            self.assert_no(NoTable, ("table", name))
            for around in ROUND_ONE:
                self.assert_no(NoTable, around(("table", name)))
            for around in ROUND_TWO:
                self.assert_no(NoTable, around(("table", name), STOCK))
                self.assert_no(NoTable, around(STOCK, ("table", name)))

    def test_no_column(self):
        for column in NO_COLUMNS:
            for ask in (
                ("pick", STOCK, column, "is", 0), ("pick", STOCK, column, "over", 0), ("twins", STOCK, column, 0),
                ("twins", STOCK, 1, column), ("twins", STOCK, column, column), ("columns", STOCK, (column,)),
                ("columns", STOCK, (0, column, 1)), ("columns", STOCK, (0, 1, 0, column)),
                ("columns", STOCK, (column, 0)), ("counted", STOCK, (column,)), ("counted", STOCK, (1, column, 0)),
                ("summed", STOCK, (column,), 0), ("summed", STOCK, (0, column), 1), ("summed", STOCK, (), column),
                ("summed", STOCK, (1, 0), column), ("matched", STOCK, SEEN, ((column, 0),)),
                ("matched", STOCK, SEEN, ((0, column),)), ("matched", STOCK, SEEN, ((0, 0), (1, column), (1, 1))),
                ("matched", STOCK, SEEN, ((0, 0), (column, 1), (1, 1))),
            ):
                self.assert_no(NoColumn, ask)

    def test_a_column_of_the_other_part_is_none_of_the_part(self):
        self.assertEqual(width_of(SHAPES, ("matched", STOCK, PRICE, ((1, 2),))), 5)
        self.assertEqual(width_of(SHAPES, ("matched", PRICE, STOCK, ((2, 1),))), 5)
        self.assert_no(NoColumn, ("matched", STOCK, PRICE, ((2, 1),)))
        self.assert_no(NoColumn, ("matched", PRICE, STOCK, ((1, 2),)))
        self.assert_no(NoColumn, ("matched", STOCK, PRICE, ((3, 0),)))

    def test_columns_are_those_of_the_part_not_of_its_table(self):
        none, more = ("columns", PRICE, ()), ("matched", STOCK, PRICE, ())
        for column in (0, 1, 2):
            self.assert_no(NoColumn, ("pick", none, column, "is", 0))
            self.assert_no(NoColumn, ("columns", none, (column,)))
            self.assert_no(NoColumn, ("summed", none, (), column))
            self.assert_no(NoColumn, ("twins", ("counted", PRICE, ()), 0, column + 1))
        self.assertEqual(width_of(SHAPES, ("pick", more, 4, "is", 0)), 5)
        self.assert_no(NoColumn, ("pick", more, 5, "is", 0))

    def test_no_width(self):
        for word in WORDS:
            for one, other in itertools.product((LONE, STOCK, PRICE, ("columns", PRICE, ())), repeat=2):
                if one != other:
                    self.assert_no(NoWidth, ("joined", one, other, word))

    def test_no_word(self):
        for word in NO_PICKS:
            self.assert_no(NoWord, ("pick", STOCK, 0, word, 1))
        for word in NO_WORDS + LIFT_WORDS + ("is", "under", "over"):
            self.assert_no(NoWord, ("joined", STOCK, SEEN, word))
        for word in NO_LIFTS + ("is", "under", "over"):
            self.assert_no(NoWord, ("lifted", STOCK, word, 1))

    def test_the_order_of_an_asks_own(self):
        for column in NO_COLUMNS:
            self.assert_no(NoColumn, ("pick", STOCK, column, "nothing", 0))
        for word in ("nothing", "is", "moved", ""):
            self.assert_no(NoWidth, ("joined", STOCK, PRICE, word))
            self.assert_no(NoWidth, ("joined", PRICE, STOCK, word))

    def test_a_parts_refusal_comes_ahead_of_the_asks_own(self):
        for refusal, faulty in FAULTS.items():
            for around in ROUND_ONE + FAULTY_ROUND_ONE:
                self.assert_no(refusal, around(faulty))
                for further in FAULTY_ROUND_ONE:
                    self.assert_no(refusal, further(around(faulty)))

    def test_the_first_parts_refusal_comes_ahead_of_the_seconds(self):
        for around in ROUND_TWO + FAULTY_ROUND_TWO:
            for refusal, faulty in FAULTS.items():
                self.assert_no(refusal, around(faulty, STOCK))
                self.assert_no(refusal, around(faulty, PRICE))
                self.assert_no(refusal, around(STOCK, faulty))
                self.assert_no(refusal, around(PRICE, ("lifted", faulty, "ever", 0)))
                for other in FAULTS.values():
                    self.assert_no(refusal, around(faulty, other))
                    self.assert_no(refusal, around(("lifted", ("twins", faulty, 0, 0), "ever", 0), other))

    def test_three_at_once(self):
        for first, second in itertools.product(FAULTS, repeat=2):
            ask = ("joined", ("lifted", FAULTS[first], "no", 0), ("pick", FAULTS[second], 99, "no", 0), "no")
            self.assert_no(first, ask)
            self.assert_no(second, ("joined", PRICE, ("pick", FAULTS[second], 99, "no", 0), "no"))

    def test_faults_alone(self):
        for refusal, faulty in FAULTS.items():
            self.assert_no(refusal, faulty)


class Point2(TableCase):
    def test_shapes_stay_as_they_were(self):
        shapes = copy.deepcopy(SHAPES)
        for ask in ASKS_OF_ALL_KINDS + list(FAULTS.values()):
            try:
                width_of(shapes, ask)
            except (NoTable, NoColumn, NoWidth, NoWord):
                pass
            self.assertEqual(shapes, SHAPES)

    def test_the_interface(self):
        self.assertEqual(list(inspect.signature(asks.width_of).parameters), ["shapes", "ask"])

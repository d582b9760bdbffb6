import copy
import inspect

from heldwhen import asktexts
from heldwhen.asktexts import read_ask, write_ask
from tests.ask_samples import ASKS_OF_ALL_KINDS, LONE, PRICE, SEEN, STOCK, chain_of, random_asks
from tests.plot_samples import FAR
from tests.text_samples import (
    NAMES, NO_LETTERS, NO_NUMBERS, NO_TEXTS, NUMBERS, TextCase, beginnings, spaced, spoilt,
)

A, B = ("table", "a"), ("table", "b")
WRITTEN = (
    (A, "table a"),
    (("joined", A, ("pick", B, 0, "over", 5), "less"), "joined table a pick table b 0 over 5 less"),
    (("pick", A, 3, "is", -5), "pick table a 3 is -5"),
    (("twins", A, 0, 12), "twins table a 0 12"),
    (("columns", A, ()), "columns table a 0"),
    (("columns", A, (2, 0, 2)), "columns table a 3 2 0 2"),
    (("joined", A, B, "both"), "joined table a table b both"),
    (("matched", A, B, ()), "matched table a table b 0"),
    (("matched", A, B, ((0, 1), (7, 2))), "matched table a table b 2 0 1 7 2"),
    (("counted", A, ()), "counted table a 0"),
    (("counted", A, (1,)), "counted table a 1 1"),
    (("summed", A, (), 4), "summed table a 0 4"),
    (("summed", A, (0, 1), 2), "summed table a 2 0 1 2"),
    (("lifted", A, "moved", -3), "lifted table a moved -3"),
    (("lifted", ("joined", ("counted", A, (0,)), ("matched", B, ("table", "table"), ((1, 0),)), "just"), "asof", 4),
     "lifted joined counted table a 1 0 matched table b table table 1 1 0 just asof 4"),
    (("matched", ("joined", A, B, "either"), ("joined", B, A, "both"), ()),
     "matched joined table a table b either joined table b table a both 0"),
    (("pick", A, FAR, "under", -FAR), f"pick table a {FAR} under -{FAR}"),
    (("columns", A, (-1, FAR)), f"columns table a 2 -1 {FAR}"),
)
NO_ASKS = (
    "", " ", "table", "a", "table a b", "table a 0", "table table table", "pick", "pick table a", "pick table a 0",
    "pick table a 0 is", "pick table a 0 is 5 6", "pick table a is 0 5", "pick a 0 is 5", "pick table a 0 0 is 5",
    "pick table a 0 is is 5", "pick table a - is 5", "pick table a 0 is -", "twins table a 0", "twins table a 0 1 2",
    "twins table a", "columns table a", "columns table a 1", "columns table a 2 0", "columns table a 1 0 0",
    "columns table a 0 0", "columns table a -1", "columns table a -1 0", "joined table a table b",
    "joined table a both", "joined table a table b table c both", "joined table a table b both both",
    "joined table a table b 0",
    "matched table a table b", "matched table a table b 1", "matched table a table b 1 0",
    "matched table a table b 1 0 0 0", "matched table a table b 2 0 0 0", "matched table a table b 0 0",
    "matched table a table b -1", "matched table a 1 0 0", "counted table a", "counted table a 1",
    "counted table a 0 0", "counted table a 2 0", "summed table a", "summed table a 0", "summed table a 1 0",
    "summed table a 0 1 1", "summed table a 2 0 1", "lifted table a", "lifted table a moved", "lifted table a 3 moved",
    "lifted table a moved 3 3", "lifted table a moved -", "Table a", "TABLE a", "tables a", "tabl a", "table a .",
    "told a", "a table", "tell 1 a - - 1 .", "row a 0 in 0 0 .", "card 1 2 0 .", "done 0 .", "both", "is", "1", "-",
    ".", f"columns table a {FAR}", f"columns table a {FAR} 0 1", f"matched table a table b {FAR} 0 0", "(table a)",
    "pick pick pick pick", "joined joined joined", "columns 0 table a", "pick 0 table a is 5", "table a\n", "\ttable a",
)
WORDS_TO_TRY = (
    "table", "pick", "joined", "matched", "columns", "is", "a", "0", "1", "2", "-1", "-", ".", "", "00", "A",
)


def asks_to_write():
    return [ask for ask, text in WRITTEN] + ASKS_OF_ALL_KINDS + [ask for ask, width in random_asks(250, 221, 7)]


def chain_texts(deep):
    """Texts of asks that are so deep, by each kind of tuple round a part."""
    many = deep - 1
    return [
        "pick " * many + "table a" + " 0 is 5" * many,
        "twins " * many + "table a" + " 0 1" * many,
        "columns " * many + "table a" + " 0" * many,
        "joined " * many + "table a" + " table b both" * many,
        "joined table a " * many + "table b" + " less" * many,
        "matched " * many + "table a" + " table b 0" * many,
        "matched table a " * many + "table b" + " 1 0 0" * many,
        "counted " * many + "table a" + " 1 0" * many,
        "summed " * many + "table a" + " 1 0 0" * many,
        "lifted " * many + "table a" + " ever 0" * many,
    ]


def depth_of(ask):
    parts = [thing for thing in ask[1:] if isinstance(thing, tuple) and thing and isinstance(thing[0], str)]
    return 1 + max([depth_of(part) for part in parts], default=0)


class Written(TextCase):
    def test_written_out(self):
        for ask, text in WRITTEN:
            self.assertEqual(write_ask(ask), text)
            self.assertEqual(read_ask(text), ask)

    def assert_all_tuples(self, thing):
        self.assertIn(type(thing), (tuple, str, int))
        if type(thing) is tuple:
            for part in thing:
                self.assert_all_tuples(part)

    def test_written_and_read_back(self):
        for ask in asks_to_write():
            text = write_ask(ask)
            self.assertIs(type(text), str)
            told = read_ask(text)
            self.assertEqual(told, ask)
            self.assert_all_tuples(told)

    def test_any_word_of_one_to_eight_small_letters(self):
        for word in NAMES + ("q", "nothing", "pick", "columns", "joined", "moved"):
            for ask in (("table", word), ("pick", A, 0, word, 1), ("joined", A, B, word), ("lifted", A, word, 2)):
                self.assertEqual(read_ask(write_ask(ask)), ask)
            self.assertEqual(read_ask(f"pick table {word} 0 {word} 1"), ("pick", ("table", word), 0, word, 1))

    def test_no_words(self):
        for word in NO_LETTERS:
            self.assert_no_text(read_ask, f"table {word}")
            self.assert_no_text(read_ask, f"pick table a 0 {word} 1")
            self.assert_no_text(read_ask, f"joined table a table b {word}")
            self.assert_no_text(read_ask, f"lifted table a {word} 2")

    def test_numbers(self):
        for number in NUMBERS:
            for ask in (("pick", A, number, "is", number), ("twins", A, number, number), ("columns", A, (number,)),
                        ("matched", A, B, ((number, 0), (0, number))), ("counted", A, (0, number)),
                        ("summed", A, (number,), number), ("lifted", A, "moved", number)):
                self.assertEqual(read_ask(write_ask(ask)), ask)

    def test_no_numbers(self):
        for number in NO_NUMBERS:
            if number != "1 2":
                for text in ("pick table a {} is 5", "pick table a 0 is {}", "twins table a {} 0", "twins table a 0 {}",
                             "columns table a 1 {}", "matched table a table b 1 {} 0", "matched table a table b 1 0 {}",
                             "counted table a 2 0 {}", "summed table a 1 {} 0", "summed table a 0 {}",
                             "lifted table a moved {}"):
                    self.assert_no_text(read_ask, text.replace("{}", number))
            self.assert_no_text(read_ask, f"columns table a {number} 0")

    def test_three_hundred_columns_and_pairs(self):
        many = tuple(range(300))
        for ask in (("columns", A, many), ("counted", A, many), ("summed", A, many, 7),
                    ("matched", A, B, tuple((i, -i) for i in many))):
            self.assertEqual(read_ask(write_ask(ask)), ask)


class Depth(TextCase):
    def test_up_to_20_is_read(self):
        for deep in (1, 2, 3, 10, 19, 20):
            for text in chain_texts(deep):
                ask = read_ask(text)
                self.assertEqual(depth_of(ask), deep)
                self.assertEqual(write_ask(ask), text)
            self.assertEqual(read_ask(write_ask(chain_of(deep))), chain_of(deep))

    def test_deeper_is_refused(self):
        for deep in (21, 22, 40, 300, 5000):
            for text in chain_texts(deep):
                self.assert_no_text(read_ask, text)
        for inner in ("pick ", "joined ", "lifted "):
            self.assert_no_text(read_ask, inner * 100000)

    def test_deep_in_one_part_alone(self):
        deep = write_ask(chain_of(19))
        for text in (f"joined {deep} table a both", f"joined table a {deep} both", f"matched {deep} {deep} 0"):
            self.assertEqual(depth_of(read_ask(text)), 20)
        deep = write_ask(chain_of(20))
        for text in (f"joined {deep} table a both", f"joined table a {deep} both", f"matched {deep} {deep} 0",
                     f"matched table a {deep} 0"):
            self.assert_no_text(read_ask, text)


class Refused(TextCase):
    def test_no_asks(self):
        for text in NO_ASKS:
            self.assert_no_text(read_ask, text)

    def test_each_beginning_of_its_words(self):
        for ask in asks_to_write()[::3]:
            words = write_ask(ask).split(" ")
            for many in range(len(words)):
                self.assert_no_text(read_ask, " ".join(words[:many]))

    def test_each_beginning_of_its_signs(self):
        for ask, text in WRITTEN:
            for beginning in beginnings(text):
                # A name, a word or the last number cut short is another ask.
                self.assert_read_or_refused(read_ask, write_ask, beginning)

    def test_words_put_behind(self):
        for ask in asks_to_write()[::3]:
            for word in WORDS_TO_TRY + ("table a",):
                self.assert_no_text(read_ask, write_ask(ask) + " " + word)

    def test_spoilt(self):
        refused = 0
        for ask in asks_to_write()[:len(WRITTEN) + 40]:
            for text in spoilt(write_ask(ask), WORDS_TO_TRY):
                refused += self.assert_read_or_refused(read_ask, write_ask, text) is None
        self.assertGreater(refused, 5000)

    def test_other_blanks(self):
        for ask, text in WRITTEN:
            for changed in spaced(text):
                self.assert_read_or_refused(read_ask, write_ask, changed)
            for changed in (" " + text, text + " ", text.replace(" ", "  "), text.replace(" ", "\t"), text + "\n"):
                self.assert_no_text(read_ask, changed)

    def test_what_is_no_text(self):
        for thing in NO_TEXTS + tuple(ask for ask, text in WRITTEN):
            self.assert_no_text(read_ask, thing)
        for ask, text in WRITTEN:
            self.assert_no_text(read_ask, text.encode())
            self.assert_no_text(read_ask, text.split(" "))


class Point2(TextCase):
    def test_what_was_handed_in_stays(self):
        for ask in (STOCK, PRICE, SEEN, LONE) + tuple(asks_to_write()[:40]):
            before = copy.deepcopy(ask)
            write_ask(ask)
            self.assertEqual(ask, before)

    def test_the_interface(self):
        self.assertEqual(list(inspect.signature(asktexts.write_ask).parameters), ["ask"])
        self.assertEqual(list(inspect.signature(asktexts.read_ask).parameters), ["text"])

import copy
import inspect
import random
import re

from heldwhen import texts
from heldwhen.texts import read_number, read_telling, write_number, write_telling
from tests.plot_samples import FAR
from tests.telling_samples import NO_STRETCHES, SHAPES, STRETCHES, random_telling
from tests.text_samples import (
    LETTERS, NAMES, NO_LETTERS, NO_NUMBERS, NO_TEXTS, NUMBER, NUMBERS, TextCase, beginnings, spaced, spoilt,
)

WRITTEN = (
    (1, ("tell", "stock", (1, 5), 0, 10), "tell 1 stock 0 10 1 5 ."),
    (2, ("tell", "stock", (1, -7), 5, None), "tell 2 stock 5 - 1 -7 ."),
    (30, ("strike", "stock", (1,), None, -9), "strike 30 stock - -9 1 ."),
    (400, ("strike", "lone", (), None, None), "strike 400 lone - - ."),
    (7, ("tell", "a", (), -3, 4), "tell 7 a -3 4 ."),
    (1, ("tell", "abcdefgh", (0, 1, 2, 3, 4, 5, 6, 7), None, 1), "tell 1 abcdefgh - 1 0 1 2 3 4 5 6 7 ."),
    (FAR, ("strike", "z", (FAR, -FAR), -FAR, FAR), f"strike {FAR} z -{FAR} {FAR} {FAR} -{FAR} ."),
)
WHOLE = re.compile(rf"(tell|strike) ({NUMBER}) {LETTERS} (-|{NUMBER}) (-|{NUMBER})( {NUMBER})* \.", re.ASCII)
WORDS_TO_TRY = ("tell", "strike", ".", "-", "0", "-1", "5", "10", "x", "", "..", "+1", "00", "Stock", "told", "-0")


def tellings_of_all_sorts():
    chance = random.Random(201)
    found = []
    for place in range(120):
        word, name, numbers, low, high = random_telling(chance, SHAPES, range(-20, 20))
        found.append((chance.choice((1, 2, 9, 10, 300, FAR)), (word, chance.choice(NAMES), numbers, low, high)))
    for low, high in STRETCHES:
        for many in (0, 1, 8):
            found.append((many + 1, ("tell", "stock", NUMBERS[:many], low, high)))
            found.append((many + 1, ("strike", "stock", NUMBERS[-many:] if many else (), low, high)))
    return found


def is_plainly_a_telling(text):
    found = WHOLE.fullmatch(text)
    if not found or int(found[2]) < 1:
        return False
    return "-" in (found[3], found[4]) or int(found[3]) < int(found[4])


class Numbers(TextCase):
    def test_written_out(self):
        for number, text in ((0, "0"), (7, "7"), (-7, "-7"), (10, "10"), (-120, "-120"), (10 ** 59, "1" + "0" * 59),
                             (FAR, "9" * 60), (-FAR, "-" + "9" * 60)):
            self.assertEqual(write_number(number), text)
            self.assertEqual(read_number(text), number)

    def test_written_and_read_back(self):
        for number in NUMBERS + tuple(range(-130, 130)):
            text = write_number(number)
            self.assertIs(type(text), str)
            self.assertRegex(text, rf"\A{NUMBER}\Z")
            told = read_number(text)
            self.assertEqual(told, number)
            self.assertIs(type(told), int)

    def test_refused(self):
        for text in NO_NUMBERS:
            self.assert_no_text(read_number, text)

    def test_what_is_no_text(self):
        for thing in NO_TEXTS:
            self.assert_no_text(read_number, thing)

    def test_each_text_of_few_signs(self):
        signs = "-0159+ ._a\n"
        found = [""]
        for many in range(4):
            found = [text + sign for text in found for sign in signs]
            for text in found:
                if re.fullmatch(NUMBER, text):
                    self.assertEqual(read_number(text), int(text))
                else:
                    self.assert_no_text(read_number, text)

    def test_blanks_and_other_signs_about_numbers(self):
        for number in NUMBERS:
            for changed in spaced(str(number)):
                self.assert_no_text(read_number, changed)


class Tellings(TextCase):
    def assert_refused_or_whole(self, text):
        if is_plainly_a_telling(text):
            turn, telling = read_telling(text)
            self.assertEqual(write_telling(turn, telling), text)
        else:
            self.assert_no_text(read_telling, text)

    def test_written_out(self):
        for turn, telling, text in WRITTEN:
            self.assertEqual(write_telling(turn, telling), text)
            self.assertEqual(read_telling(text), (turn, telling))

    def test_written_and_read_back(self):
        for turn, telling in tellings_of_all_sorts():
            text = write_telling(turn, telling)
            self.assertIs(type(text), str)
            self.assertTrue(is_plainly_a_telling(text), text)
            told = read_telling(text)
            self.assertEqual(told, (turn, telling))
            self.assertIs(type(told), tuple)
            self.assertIs(type(told[1]), tuple)
            self.assertIs(type(told[1][2]), tuple)

    def test_each_beginning_is_refused(self):
        for turn, telling in tellings_of_all_sorts() + [written[:2] for written in WRITTEN]:
            for text in beginnings(write_telling(turn, telling)):
                self.assert_no_text(read_telling, text)

    def test_spoilt(self):
        refused = 0
        for turn, telling in [written[:2] for written in WRITTEN] + tellings_of_all_sorts()[::6]:
            for text in spoilt(write_telling(turn, telling), WORDS_TO_TRY):
                self.assert_refused_or_whole(text)
                refused += not is_plainly_a_telling(text)
        self.assertGreater(refused, 5000)

    def test_other_blanks(self):
        for turn, telling, text in WRITTEN:
            for changed in spaced(text):
                self.assert_refused_or_whole(changed)
            for changed in (" " + text, text + " ", text.replace(" ", "  "), text.replace(" ", "\t"), text + "\n"):
                self.assert_no_text(read_telling, changed)

    def test_no_names(self):
        for name in NO_LETTERS:
            self.assert_no_text(read_telling, f"tell 1 {name} 0 10 1 5 .")
            self.assert_no_text(read_telling, f"strike 1 {name} - - .")

    def test_names(self):
        for name in NAMES:
            self.assertEqual(read_telling(f"tell 1 {name} - - 1 ."), (1, ("tell", name, (1,), None, None)))

    def test_no_turns(self):
        for turn in ("0", "-1", f"-{FAR}") + NO_NUMBERS:
            self.assert_no_text(read_telling, f"tell {turn} stock 0 10 1 5 .")
            self.assert_no_text(read_telling, f"strike {turn} stock - - .")

    def test_no_stretches(self):
        for low, high in NO_STRETCHES:
            self.assert_no_text(read_telling, f"tell 1 stock {low} {high} 1 5 .")
            self.assert_no_text(read_telling, f"strike 1 stock {low} {high} .")

    def test_no_ends_and_no_numbers(self):
        for text in NO_NUMBERS:
            # Some of these are the words of other tellings, where they stand as ends.
            self.assert_refused_or_whole(f"tell 1 stock {text} 10 1 5 .")
            self.assert_refused_or_whole(f"tell 1 stock -5 {text} 1 5 .")
            if text != "1 2":
                self.assert_no_text(read_telling, f"tell 1 stock - - {text} .")
                self.assert_no_text(read_telling, f"strike 1 stock - - 1 {text} 2 .")

    def test_no_words(self):
        for word in ("", "told", "Tell", "TELL", "tel", "tells", "strikes", "row", "card", ".", "-", "1", "tell tell"):
            self.assert_no_text(read_telling, f"{word} 1 stock - - 1 5 .")

    def test_the_point(self):
        for point in ("", ".", "..", ". .", ",", "1", "-", "...", ":", "\u00b7", ".\n"):
            text = f"tell 1 stock - - 1 5 {point}"
            if point == ".":
                self.assertEqual(read_telling(text), (1, ("tell", "stock", (1, 5), None, None)))
            else:
                self.assert_no_text(read_telling, text)
        self.assert_no_text(read_telling, "tell 1 stock - - 1 5.")
        self.assert_no_text(read_telling, "tell 1 stock - - 1 . 5 .")

    def test_what_is_no_text(self):
        for thing in NO_TEXTS + tuple(written[1] for written in WRITTEN) + tuple(written[:2] for written in WRITTEN):
            self.assert_no_text(read_telling, thing)
        for turn, telling, text in WRITTEN:
            self.assert_no_text(read_telling, text.encode())
            self.assert_no_text(read_telling, text.split(" "))

    def test_texts_of_other_sorts(self):
        others = ("card 1 2 0 .", "done 0 .", "row a 1 5 in 0 0 .", "table a", ".", ". .", "- -")
        for text in NO_NUMBERS + NO_LETTERS + NAMES + others:
            self.assert_no_text(read_telling, text)

    def test_more_than_eight_numbers(self):
        telling = ("tell", "stock", tuple(range(20)), None, None)
        self.assertEqual(read_telling(write_telling(1, telling)), (1, telling))


class Point2(TextCase):
    def test_what_was_handed_in_stays(self):
        for turn, telling, text in WRITTEN:
            before = copy.deepcopy(telling)
            write_telling(turn, telling)
            self.assertEqual(telling, before)

    def test_the_interface(self):
        for name, wanted in (("write_number", ["number"]), ("read_number", ["text"]),
                             ("write_telling", ["turn", "telling"]), ("read_telling", ["text"])):
            self.assertEqual(list(inspect.signature(getattr(texts, name)).parameters), wanted)

import copy
import inspect
import random

from heldwhen import entries
from heldwhen.entries import read_entry, read_first, read_last, write_entry, write_first, write_last
from tests.plot_samples import ALL, ALL_SPOTS, EMPTY, FAR, NO_SPOTS, is_plain_plot, plots_of_all_sorts, random_plots
from tests.text_samples import (
    NAMES, NO_LETTERS, NO_NUMBERS, NO_TEXTS, NUMBERS, TextCase, beginnings, spaced, spoilt,
)

WEEK = (False, (3, 7))
WRITTEN = (
    (("stock", (1, 5), (WEEK, ())), "row stock 2 1 5 out 2 3 7 0 ."),
    (("a", (), NO_SPOTS), "row a 0 out 0 0 ."),
    (("a", (), ALL_SPOTS), "row a 0 in 0 0 ."),
    (("lone", (-4,), (EMPTY, ((1, WEEK), (4, EMPTY)))), "row lone 1 -4 out 0 2 1 out 2 3 7 4 out 0 ."),
    (("abcdefgh", (0, 1, 2), ((True, (0,)), ((-2, (False, (-1, 0, 1))), (0, ALL)))),
     "row abcdefgh 3 0 1 2 in 1 0 2 -2 out 3 -1 0 1 0 in 0 ."),
    (("z", (FAR, -FAR), (EMPTY, ((FAR, (True, (-FAR,))),))), f"row z 2 {FAR} -{FAR} out 0 1 {FAR} in 1 -{FAR} ."),
)
# Each of them reads word by word, but what it tells is no plot.
NO_PLOTS = (
    "out 2 7 3 0", "out 2 3 3 0", "in 3 1 2 2 0", "in 3 1 3 2 0", "out 2 0 -1 0", "out 0 1 5 out 0", "in 0 1 5 in 0",
    "out 2 3 7 1 5 out 2 3 7", "out 0 2 5 in 0 5 out 0", "out 0 2 5 in 0 4 out 0", "out 0 2 5 in 0 6 in 0",
    "out 0 1 5 out 2 7 3", "out 0 1 5 out 2 7 7", "out 0 3 1 in 0 3 out 0 2 in 0", "out 0 2 1 out 1 4 2 out 1 4",
    "out 0 2 0 in 0 -1 out 0", "in 1 5 2 1 in 0 9 in 0", f"out 2 {FAR} -{FAR} 0",
)
# Words wrong in their places, and counts that are too small or too great.
NO_ENTRIES = (
    "row stock 2 1 5 out 2 3 0 .", "row stock 2 1 5 out 3 3 7 0 .", "row stock 2 1 5 out 1 3 7 0 .",
    "row stock 1 1 5 out 2 3 7 0 .", "row stock 3 1 5 out 2 3 7 0 .", "row stock 2 1 5 out 2 3 7 1 .",
    "row stock 2 1 5 out 2 3 7 0 0 .", "row stock -1 1 5 out 2 3 7 0 .", "row stock 2 1 5 out -1 3 7 0 .",
    "row stock 2 1 5 out 2 3 7 -1 .", f"row stock {FAR} 1 5 out 2 3 7 0 .", f"row stock 2 1 5 out {FAR} 3 7 0 .",
    f"row stock 2 1 5 out 2 3 7 {FAR} .", "row stock 2 1 5 off 2 3 7 0 .", "row stock 2 1 5 In 2 3 7 0 .",
    "row stock 2 1 5 True 2 3 7 0 .", "row stock 2 1 5 0 2 3 7 0 .", "row stock 2 1 5 2 3 7 0 .",
    "rows stock 2 1 5 out 2 3 7 0 .", "stock 2 1 5 out 2 3 7 0 .", "row 2 1 5 out 2 3 7 0 .",
    "row stock out 2 3 7 0 .", "row stock 2 1 5 out 2 3 7 .", "row stock 2 1 5 out 2 3 7 0", "row stock 2 1 5 .",
    "row stock 2 1 5 out 2 3 7 0 . .", "row stock 2 1 5 out 2 3 7 0 ..", "row stock 2 1 - out 2 3 7 0 .",
    "row stock 2 1 5 out 2 - 7 0 .", "row stock 02 1 5 out 2 3 7 0 .", "row stock 2 1 5 out 2 3 7 00 .",
    "row stock 2 1 5 out 2 3 7 -0 .", "row stock 0 out 0 0 . done 0 .",
)
WORDS_TO_TRY = ("row", "in", "out", ".", "-", "0", "1", "2", "-1", "7", "x", "", "card", "done", "+1", "-0", "00")
CARDS = [(0, 0, 0), (1, 0, 0), (1, 5, 3), (2, 300, 300), (10, 11, 0), (FAR, FAR, FAR), (7, FAR, 1)]


def entries_of_all_sorts():
    chance = random.Random(211)
    found = [entry for entry, text in WRITTEN]
    for plot in plots_of_all_sorts() + random_plots(60, 212):
        row = tuple(chance.choice(NUMBERS) for place in range(chance.randint(0, 8)))
        found.append((chance.choice(NAMES), row, plot))
    return found


def great_entry():
    edges = tuple(range(-300, 300, 2))
    steps = tuple((turn, (turn % 2 == 0, edges[:turn % 7])) for turn in range(1, 301))
    return ("stock", tuple(range(300)), ((True, edges), steps))


class Entries(TextCase):
    def test_written_out(self):
        for entry, text in WRITTEN:
            self.assertEqual(write_entry(*entry), text)
            self.assertEqual(read_entry(text), entry)

    def test_written_and_read_back(self):
        for entry in entries_of_all_sorts() + [great_entry()]:
            text = write_entry(*entry)
            self.assertIs(type(text), str)
            told = read_entry(text)
            self.assertEqual(told, entry)
            self.assertIs(type(told), tuple)
            self.assertIs(type(told[1]), tuple)
            self.assertIs(is_plain_plot(told[2]), True)

    def test_each_beginning_is_refused(self):
        for entry in entries_of_all_sorts()[::3]:
            for text in beginnings(write_entry(*entry)):
                self.assert_no_text(read_entry, text)

    def test_spoilt(self):
        for entry in [entry for entry, text in WRITTEN] + entries_of_all_sorts()[::16]:
            for text in spoilt(write_entry(*entry), WORDS_TO_TRY):
                told = self.assert_read_or_refused(read_entry, lambda told: write_entry(*told), text)
                if told is not None:
                    self.assertIs(is_plain_plot(told[2]), True, text)
                    self.assertRegex(told[0], r"\A[a-z]{1,8}\Z")

    def test_other_blanks(self):
        for entry, text in WRITTEN:
            for changed in spaced(text):
                self.assert_read_or_refused(read_entry, lambda told: write_entry(*told), changed)
            for changed in (" " + text, text + " ", text.replace(" ", "  "), text.replace(" ", "\t"), text + "\n"):
                self.assert_no_text(read_entry, changed)

    def test_refused(self):
        for text in NO_ENTRIES:
            self.assert_no_text(read_entry, text)

    def test_what_reads_but_is_no_plot(self):
        for plot in NO_PLOTS:
            self.assert_no_text(read_entry, f"row stock 2 1 5 {plot} .")

    def test_names(self):
        for name in NAMES:
            self.assertEqual(read_entry(f"row {name} 0 in 0 0 ."), (name, (), ALL_SPOTS))
        for name in NO_LETTERS:
            self.assert_no_text(read_entry, f"row {name} 0 in 0 0 .")

    def test_no_numbers(self):
        for number in NO_NUMBERS:
            if number != "1 2":
                self.assert_no_text(read_entry, f"row stock 1 {number} out 2 3 7 0 .")
                self.assert_no_text(read_entry, f"row stock 1 1 out 1 {number} 0 .")
                self.assert_no_text(read_entry, f"row stock 1 1 out 0 1 {number} in 0 .")
                self.assert_no_text(read_entry, f"row stock {number} 1 out 2 3 7 0 .")

    def test_numbers(self):
        for number in NUMBERS:
            wanted = ("stock", (number,), ((False, (number,)), ((number, ALL),)))
            self.assertEqual(read_entry(f"row stock 1 {number} out 1 {number} 1 {number} in 0 ."), wanted)

    def test_what_is_no_text(self):
        for thing in NO_TEXTS + tuple(entry for entry, text in WRITTEN):
            self.assert_no_text(read_entry, thing)
        for entry, text in WRITTEN:
            self.assert_no_text(read_entry, text.encode())
            self.assert_no_text(read_entry, text.split(" "))


class Cards(TextCase):
    def test_first_rows(self):
        self.assertEqual(write_first(3, 12, 7), "card 3 12 7 .")
        self.assertEqual(read_first("card 3 12 7 ."), (3, 12, 7))
        for card in CARDS:
            text = write_first(*card)
            self.assertIs(type(text), str)
            told = read_first(text)
            self.assertEqual(told, card)
            self.assertIs(type(told), tuple)

    def test_last_rows(self):
        self.assertEqual(write_last(12), "done 12 .")
        for many in (0, 1, 9, 10, 300, FAR):
            text = write_last(many)
            self.assertIs(type(text), str)
            self.assertEqual(text, f"done {many} .")
            told = read_last(text)
            self.assertEqual(told, many)
            self.assertIs(type(told), int)

    def test_each_beginning_is_refused(self):
        for card in CARDS:
            for text in beginnings(write_first(*card)):
                self.assert_no_text(read_first, text)
            for text in beginnings(write_last(card[1])):
                self.assert_no_text(read_last, text)

    def test_spoilt(self):
        for card in CARDS:
            for text in spoilt(write_first(*card), WORDS_TO_TRY):
                told = self.assert_read_or_refused(read_first, lambda told: write_first(*told), text)
                self.assertTrue(told is None or len(told) == 3 and min(told) >= 0)
            for text in spoilt(write_last(card[1]), WORDS_TO_TRY):
                told = self.assert_read_or_refused(read_last, write_last, text)
                self.assertTrue(told is None or told >= 0)

    def test_refused(self):
        for text in ("card 1 2 .", "card 1 2 3 4 .", "card 1 2 3", "card .", "card", "Card 1 2 3 .", "cards 1 2 3 .",
                     "done 1 2 3 .", "card -1 2 3 .", "card 1 -2 3 .", "card 1 2 -3 .", "card 1 2 - .", "card - 2 1 .",
                     "card 1 2 3 . .", "card 1 2 3 ..", "1 2 3 .", "card 1 2 3.", "card 01 2 3 .", "card 1 +2 3 ."):
            self.assert_no_text(read_first, text)
        for text in ("done .", "done", "done 1", "done 1 2 .", "done -1 .", "done - .", "Done 1 .", "card 1 .", "1 .",
                     "done 1 . .", "done 1 ..", "done 1.", "done 01 .", "done -0 .", "done one .", "don 1 ."):
            self.assert_no_text(read_last, text)
        for number in NO_NUMBERS:
            self.assert_no_text(read_last, f"done {number} .")
            if number != "1 2":
                self.assert_no_text(read_first, f"card {number} 1 1 .")
                self.assert_no_text(read_first, f"card 1 1 {number} .")

    def test_one_row_is_not_another(self):
        rows = [(read_entry, WRITTEN[0][1]), (read_first, "card 1 2 3 ."), (read_last, "done 1 .")]
        for read, own in rows:
            for other, text in rows:
                if text != own:
                    self.assert_no_text(read, text)

    def test_what_is_no_text(self):
        for thing in NO_TEXTS + ((1, 2, 3), b"card 1 2 3 .", b"done 1 .", ["card", "1", "2", "3", "."]):
            self.assert_no_text(read_first, thing)
            self.assert_no_text(read_last, thing)


class Point2(TextCase):
    def test_what_was_handed_in_stays(self):
        for entry in entries_of_all_sorts():
            before = copy.deepcopy(entry)
            write_entry(*entry)
            self.assertEqual(entry, before)

    def test_the_interface(self):
        for name, wanted in (
            ("write_entry", ["name", "row", "plot"]), ("read_entry", ["text"]), ("write_last", ["many"]),
            ("write_first", ["number", "turn", "since"]), ("read_first", ["text"]), ("read_last", ["text"]),
        ):
            self.assertEqual(list(inspect.signature(getattr(entries, name)).parameters), wanted)

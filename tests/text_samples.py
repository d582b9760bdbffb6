"""What the tests of texts draw on: what is no text, no number, no word, and texts spoilt in many ways."""

import unittest

from heldwhen.errors import NoText
from tests.plot_samples import FAR

NUMBER = r"(?:0|-?[1-9][0-9]{0,59})"
LETTERS = r"[a-z]{1,8}"
NUMBERS = (
    0, 1, -1, 5, 9, 10, -10, 42, 100, -999, 10 ** 30, -10 ** 30, 10 ** 58, 10 ** 59, -10 ** 59, 10 ** 59 - 1, FAR,
    -FAR, FAR - 1, 123456789012345678901234567890,
)
# Written as numbers are not.
NO_NUMBERS = (
    "", "-", "--", "--1", "+", "+1", "+0", "-0", "00", "01", "-01", "-00", "007", "1" + "0" * 60, "-1" + "0" * 60,
    "0" * 60, "9" * 61, "-" + "9" * 61, "9" * 900, "9" * 5000, "1_0", "_1", "1_", "1.", ".1", "1.0", "1e3", "0x1",
    "0b1", "0o7", "1L", "a", "one", "x1", "1x", "1-", "1-2", "- 1", "1 ", " 1", "1 2", "  1", "1\t", "\t1", "1\n",
    "\n1", "1\r", "\n", " ", "\t", "1\0", "\0", "1\x0b", "1\x1f", "1\x85", "1\xa0", "\xa01", "1\u2028", "1,000",
    "1'0", "\u0661", "\u0967", "\uff11", "\u00b2", "\u00bd", "\u2460", "\u22121", "\u20131", "\U0001d7d7",
    "1\u0660", "None", "True", "False", "()", "1,", "(1)", "nan", "inf", "\ud800",
)
# Of things that are no texts.
NO_TEXTS = (
    None, 0, 1, -5, FAR, 10 ** 5000, True, False, 1.5, b"0", b"", bytearray(b"1"), [], ["1"], ["1", "2"], (), ("1",),
    {}, {"1": "1"}, set(), object(), str, ("tell", "a", (1,), None, None), (1, ("tell", "a", (1,), None, None)),
    ["tell", "1", "a", "-", "-", "1", "."],
)
# Neither a name nor a word.
NO_LETTERS = (
    "", "abcdefghi", "a" * 9, "a" * 300, "A", "Ab", "aB", "abC", "a1", "1a", "1", "-", ".", "a.", "a-b", "a_b", "_",
    "a\t", "a\n", "\na", "\ta", "a\0", "\u00e4", "\u00df", "\uff41", "a\u0301", "\u0430", "\u00aa", "\u0131",
)
NAMES = (
    "a", "z", "stock", "abcdefgh", "zzzzzzzz", "tell", "strike", "row", "in", "out", "card", "done", "table", "none",
)


def beginnings(text):
    """Each beginning of a text but the whole."""
    return [text[:many] for many in range(len(text))]


def spoilt(text, words):
    """Texts with two words exchanged, a word taken out, put in or put in another's place, and with other blanks."""
    parts = text.split(" ")
    found = []
    for place in range(len(parts)):
        found.append(parts[:place] + parts[place + 1:])
        found.append(parts[:place] + [parts[place].upper()] + parts[place + 1:])
        for other in range(place):
            changed = list(parts)
            changed[place], changed[other] = parts[other], parts[place]
            found.append(changed)
        for word in words:
            found.append(parts[:place] + [word] + parts[place:])
            found.append(parts[:place] + [word] + parts[place + 1:])
    found.extend(parts + [word] for word in words)
    texts = [" ".join(words) for words in found] + spaced(text)
    return [changed for changed in texts if changed != text]


def spaced(text):
    found = [" " + text, text + " ", "\n" + text, text + "\n", text + "\r\n", "\t" + text, text + "\0", "\ufeff" + text]
    for place, sign in enumerate(text):
        if sign == " ":
            for other in ("  ", "", "\t", "\n", "\xa0", " \t", "_", ","):
                found.append(text[:place] + other + text[place + 1:])
    return found


class TextCase(unittest.TestCase):
    def assert_no_text(self, read, thing):
        with self.assertRaises(NoText, msg=ascii(thing)[:200] if isinstance(thing, str) else "no text") as caught:
            read(thing)
        self.assertIs(type(caught.exception), NoText)

    def assert_read_or_refused(self, read, write, text):
        """What reads is so written: no text reads that would not be written just so."""
        try:
            told = read(text)
        except NoText as refusal:
            self.assertIs(type(refusal), NoText)
            return None
        self.assertEqual(write(told), text)
        return told

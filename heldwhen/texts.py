"""Texts: numbers and tellings, written by words that are parted by single blanks, and read back."""

from heldwhen.errors import NoText
from heldwhen.reaches import NO_NUMBERS, stretch_of

FIGURES = "0123456789"
SMALL_LETTERS = "abcdefghijklmnopqrstuvwxyz"
MOST_FIGURES = 60
MOST_LETTERS = 8


def check_text(thing):
    # The thing is not shown: of anything that is no text it is not sure that it can be written out.
    if not isinstance(thing, str):
        raise NoText("what is to be read is no text")


def is_made_of(text, signs, most):
    return 1 <= len(text) <= most and all([sign in signs for sign in text])


def write_number(number):
    return str(number)


def read_number(text):
    check_text(text)
    figures = text[1:] if text.startswith("-") else text
    if not is_made_of(figures, FIGURES, MOST_FIGURES):
        raise NoText(f"no number: {text!r}")
    if figures[0] == "0" and text != "0":
        raise NoText(f"a number with a 0 ahead, or below 0 without being so: {text!r}")
    return int(text)


def read_number_from(text, least):
    number = read_number(text)
    if number < least:
        raise NoText(f"{number} where numbers from {least} on are written")
    return number


def write_numbers(numbers):
    return [write_number(number) for number in numbers]


def write_counted(numbers):
    """The words of how many numbers there are, and of these."""
    return [write_number(len(numbers))] + write_numbers(numbers)


def write_end(end):
    return "-" if end is None else write_number(end)


def read_end(text):
    return None if text == "-" else read_number(text)


def read_letters(text):
    if not is_made_of(text, SMALL_LETTERS, MOST_LETTERS):
        raise NoText(f"no word of one to eight small letters: {text!r}")
    return text


def words_of(text):
    check_text(text)
    return text.split(" ")


def write_telling(turn, telling):
    head = [telling[0], write_number(turn), telling[1], write_end(telling[3]), write_end(telling[4])]
    return " ".join(head + write_numbers(telling[2]) + ["."])


def read_telling(text):
    words = words_of(text)
    if len(words) < 6 or words[0] not in ("tell", "strike") or words[-1] != ".":
        raise NoText(f"no telling: {text!r}")
    turn = read_number_from(words[1], 1)
    name = read_letters(words[2])
    low = read_end(words[3])
    high = read_end(words[4])
    if stretch_of(low, high) == NO_NUMBERS:
        raise NoText(f"no days from {low} to {high}")
    numbers = tuple([read_number(word) for word in words[5:-1]])
    return (turn, (words[0], name, numbers, low, high))


# Takes the words of a text one after another; a word that is not there, or not so written, is refused with NoText.
class Reader:
    def __init__(self, text):
        self.words = words_of(text)
        self.place = 0

    def word(self):
        if self.place == len(self.words):
            raise NoText("the text ends too early")
        self.place += 1
        return self.words[self.place - 1]

    def exactly(self, wanted):
        if self.word() != wanted:
            raise NoText(f"{wanted!r} does not stand where it should")

    def letters(self):
        return read_letters(self.word())

    def number(self):
        return read_number(self.word())

    def many(self):
        return read_number_from(self.word(), 0)

    def numbers(self):
        return tuple([self.number() for place in range(self.many())])

    def finish(self):
        if self.place != len(self.words):
            raise NoText("words stand behind the end")

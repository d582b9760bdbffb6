"""What the tests of tellings and the book draw on: shapes, tellings, and what a key has, plainly said."""

import random

from heldwhen.book import Book
from tests.plot_samples import FAR
from tests.samples import MANY_FIGURES

SHAPES = [("lone", 0, 1), ("stock", 1, 2), ("price", 2, 3), ("seen", 2, 2), ("abcdefgh", 0, 8), ("a", 1, 1)]

# Of the stock: a row and a key of the right width, and ones that are not.
ROW, KEY = (1, 5), (1,)
NO_ROWS = ((), (1,), (1, 5, 5), (0,) * 8)
NO_KEYS = ((), (1, 5), (1, 5, 5))
NO_NAMES = ("", "stoc", "stocks", "Stock", "stock ", " stock", "nothing", "tell", "b", "abcdefg")
STRETCHES = ((1, 2), (-3, 9), (None, 4), (4, None), (None, None), (0, 1), (-1, 0), (-FAR, FAR), (None, 0), (0, None))
NO_STRETCHES = ((1, 1), (2, 1), (0, 0), (0, -1), (1, 0), (-1, -1), (FAR, -FAR), (MANY_FIGURES, MANY_FIGURES))


def plainly_turn(shapes, tellings, name, key, day, turn):
    """The turn of the last telling up to that one that speaks of the key and has the day."""
    found = None
    for at, (word, of, numbers, low, high) in enumerate(tellings, 1):
        has_day = (low is None or low <= day) and (high is None or day < high)
        if at <= turn and of == name and numbers[:len(key)] == key and has_day:
            found = at
    return found


def plainly_rows(shapes, tellings, name, day, turn):
    keys = {shape[0]: shape[1] for shape in shapes}[name]
    rows = []
    for key in sorted({numbers[:keys] for word, of, numbers, low, high in tellings if of == name}):
        at = plainly_turn(shapes, tellings, name, key, day, turn)
        if at is not None and tellings[at - 1][0] == "tell":
            rows.append(tellings[at - 1][2])
    return sorted(rows)


def spots_of(tellings):
    days = {-FAR, -1, 0, FAR}
    for word, of, numbers, low, high in tellings:
        for end in (low, high):
            if end is not None:
                days |= {end - 1, end}
    turns = [-FAR, -1, 0] + list(range(1, len(tellings) + 1)) + [len(tellings) + 1, FAR]
    return [(day, turn) for turn in turns for day in sorted(days)]


def book_of(tellings, shapes=None):
    book = Book(SHAPES if shapes is None else shapes)
    for word, name, numbers, low, high in tellings:
        if word == "tell":
            book.tell(name, numbers, low, high)
        else:
            book.strike(name, numbers, low, high)
    return book


def random_days(chance):
    low, high = sorted(chance.sample(range(-6, 10), 2))
    return chance.choice(((low, high), (low, high), (low, high), (None, high), (low, None), (None, None)))


def random_telling(chance, shapes, numbers=range(3)):
    name, keys, width = chance.choice(shapes)
    word = chance.choice(("tell", "tell", "tell", "strike"))
    many = width if word == "tell" else keys
    return (word, name, tuple(chance.choice(list(numbers)) for place in range(many))) + random_days(chance)


def random_tellings(many, seed, shapes=None):
    chance = random.Random(seed)
    return [random_telling(chance, SHAPES[:4] if shapes is None else shapes) for place in range(many)]

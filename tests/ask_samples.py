"""What the tests of asks, answers and views draw on: asks by chance, and answers worked out spot by spot.

The spots here are a square field, wide enough that beyond its rims nothing changes any more: days and turns outside are
looked up at the rim."""

import random

from tests.plot_samples import plainly_at
from tests.samples import asked
from tests.telling_samples import SHAPES, plainly_rows

SMALL = SHAPES[:4]
DAYS = range(-34, 40)
TURNS = range(-7, 16)
PICKS = {"is": lambda here, number: here == number, "under": lambda here, number: here < number,
         "over": lambda here, number: here > number}
# Those that seldom leave no rows come more often.
KINDS = ["pick", "twins", "columns", "columns", "joined", "joined", "matched", "counted", "counted", "summed", "summed",
         "lifted", "lifted", "lifted"]
JOINS = ("both", "either", "either", "less", "just", "just")
LIFTS = ("moved", "moved", "ever", "ever", "always", "known", "known", "asof", "asof", "from", "from")
TURNING_WORDS = ("known", "asof", "from")
STOCK, PRICE, SEEN, LONE = ("table", "stock"), ("table", "price"), ("table", "seen"), ("table", "lone")

# One of each kind, and words and numbers of all sorts; all fit SHAPES.
ASKS_OF_ALL_KINDS = [
    STOCK,
    ("pick", STOCK, 1, "is", 1), ("pick", STOCK, 0, "under", 2), ("pick", PRICE, 2, "over", 0),
    ("twins", STOCK, 0, 1), ("twins", PRICE, 2, 0), ("twins", STOCK, 1, 1),
    ("columns", PRICE, (2, 0)), ("columns", STOCK, ()), ("columns", STOCK, (1, 1, 0)), ("columns", PRICE, (2,)),
    ("joined", STOCK, SEEN, "both"), ("joined", STOCK, SEEN, "either"), ("joined", SEEN, STOCK, "less"),
    ("joined", STOCK, SEEN, "just"), ("joined", STOCK, STOCK, "less"),
    ("matched", STOCK, PRICE, ((0, 1),)), ("matched", STOCK, SEEN, ((0, 0), (1, 1))), ("matched", LONE, STOCK, ()),
    ("counted", PRICE, (0,)), ("counted", STOCK, ()), ("counted", STOCK, (1, 1)),
    ("summed", PRICE, (0,), 2), ("summed", STOCK, (), 1), ("summed", STOCK, (1,), 0),
    ("lifted", STOCK, "moved", 2), ("lifted", STOCK, "moved", -3), ("lifted", STOCK, "ever", 0),
    ("lifted", STOCK, "always", 0), ("lifted", STOCK, "known", 0),
    ("lifted", STOCK, "asof", 4), ("lifted", STOCK, "asof", 0), ("lifted", STOCK, "asof", 99),
    ("lifted", STOCK, "from", 4), ("lifted", STOCK, "from", -2), ("lifted", STOCK, "from", 14),
    ("lifted", ("joined", STOCK, ("lifted", STOCK, "known", 0), "just"), "from", 3),
    ("joined", STOCK, ("lifted", STOCK, "asof", 3), "just"),
    ("lifted", ("counted", ("lifted", STOCK, "asof", 5), (0,)), "known", 0),
    ("lifted", ("lifted", ("lifted", STOCK, "from", 2), "known", 0), "asof", 6),
    ("summed", ("matched", STOCK, ("counted", ("pick", PRICE, 2, "over", 0), (0,)), ((0, 0),)), (0,), 3),
]


def random_part(chance, shapes, deep, widest):
    """An ask and the width of its rows."""
    kinds = ["table"] if deep <= 1 else KINDS
    kind = chance.choice(kinds)
    if kind == "table":
        name, keys, width = chance.choice(shapes)
        return ("table", name), width
    part, width = random_part(chance, shapes, chance.randint(1, deep - 1), widest)
    every = list(range(width))
    wanted = tuple(chance.choice(every) for place in range(chance.randint(0, 2))) if every else ()
    number = chance.randint(-3, 3)
    if kind in ("pick", "twins", "summed") and not every:
        kind = "lifted"
    if kind == "pick":
        return ("pick", part, chance.choice(every), chance.choice(sorted(PICKS)), chance.randint(0, 2)), width
    if kind == "twins":
        return ("twins", part, chance.choice(every), chance.choice(every)), width
    if kind == "columns":
        return ("columns", part, wanted), len(wanted)
    if kind == "joined":
        other, other_width = random_part(chance, shapes, chance.randint(1, deep - 1), widest)
        least = min(width, other_width)
        if width != least:
            part = ("columns", part, tuple(range(least)))
        if other_width != least:
            other = ("columns", other, tuple(range(least)))
        return ("joined", part, other, chance.choice(JOINS)), least
    if kind == "matched":
        other, other_width = random_part(chance, shapes, chance.randint(1, deep - 1), widest)
        if width + other_width > widest:
            other, other_width = ("columns", other, (0,) if other_width else ()), min(other_width, 1)
        pairs = [(column, other_column) for column in every for other_column in range(other_width)]
        pairs = tuple(chance.choice(pairs) for place in range(chance.randint(0, 1))) if pairs else ()
        return ("matched", part, other, pairs), width + other_width
    if kind == "counted":
        return ("counted", part, wanted), len(wanted) + 1
    if kind == "summed":
        return ("summed", part, wanted, chance.choice(every)), len(wanted) + 1
    word = chance.choice(LIFTS)
    return ("lifted", part, word, chance.randint(-2, 12) if word in TURNING_WORDS else number), width


def random_asks(many, seed, deep=5, shapes=None):
    """Pairs of an ask and its width."""
    chance = random.Random(seed)
    shapes = SMALL if shapes is None else shapes
    return [random_part(chance, shapes, chance.randint(2, deep), 6) for place in range(many)]


def words_in(ask):
    """Each text in an ask, the texts of its parts too."""
    found = []
    for thing in ask:
        if isinstance(thing, tuple):
            found.extend(words_in(thing))
        if isinstance(thing, str):
            found.append(thing)
    return found


def turns_matter(ask):
    return any(word in TURNING_WORDS for word in words_in(ask))


def at_rim(number, field):
    return max(field[0], min(field[-1], number))


def field_of(rows_at):
    return {(day, turn): frozenset(rows_at(day, turn)) for day in DAYS for turn in TURNS}


def fields_told(tellings, shapes):
    """For each name the rows that the tellings make, at each spot of the field."""
    return {name: field_of(lambda day, turn: plainly_rows(shapes, tellings, name, day, turn))
            for name, keys, width in shapes}


def field_in(table):
    return field_of(lambda day, turn: [row for row, plot in table if plainly_at(plot, day, turn)])


def plainly_lifted_rows(field, word, by, day, turn):
    if word == "moved":
        return field[at_rim(day - by, DAYS), turn]
    if word == "ever":
        return frozenset().union(*[field[other, turn] for other in DAYS])
    if word == "always":
        return field[day, turn].intersection(*[field[other, turn] for other in DAYS])
    if word == "known":
        return frozenset().union(*[field[day, other] for other in TURNS if other <= turn])
    if word == "asof":
        return field[day, at_rim(min(turn, by), TURNS)]
    return field[day, turn] if turn >= by else frozenset()


def numbers_of(row, columns):
    return tuple(row[column] for column in columns)


def plainly_grouped(rows, columns, weigh):
    groups = {}
    for row in rows:
        groups.setdefault(numbers_of(row, columns), []).append(weigh(row))
    return [row + (sum(weights),) for row, weights in groups.items()]


def plainly_made(ask, parts, day, turn):
    rows = parts[0][day, turn]
    kind = ask[0]
    if kind == "pick":
        return [row for row in rows if PICKS[ask[3]](row[ask[2]], ask[4])]
    if kind == "twins":
        return [row for row in rows if row[ask[2]] == row[ask[3]]]
    if kind == "columns":
        return [numbers_of(row, ask[2]) for row in rows]
    if kind == "counted":
        return plainly_grouped(rows, ask[2], lambda row: 1)
    if kind == "summed":
        return plainly_grouped(rows, ask[2], lambda row: row[ask[3]])
    if kind == "lifted":
        return plainly_lifted_rows(parts[0], ask[2], ask[3], day, turn)
    others = parts[1][day, turn]
    if kind == "joined":
        return [row for row in rows | others if asked(ask[3], row in rows, row in others)]
    return [row + other for row in rows for other in others if all(row[i] == other[j] for i, j in ask[3])]


def plainly_answered(fields, ask):
    """The rows of the answer at each spot of the field, by the rows of the tables at the spots."""
    if ask[0] == "table":
        return fields[ask[1]]
    parts = [plainly_answered(fields, part) for part in ask[1:] if isinstance(part, tuple) and part
             and isinstance(part[0], str)]
    return field_of(lambda day, turn: plainly_made(ask, parts, day, turn))


def chain_of(deep, inner=STOCK):
    """An ask of so many tuples in one another."""
    ask = inner
    for place in range(deep - 1):
        ask = ("lifted", ask, "moved", 1) if place % 2 else ("pick", ask, 0, "over", -99)
    return ask

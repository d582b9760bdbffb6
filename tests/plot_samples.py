"""What the tests of plots and tables draw on: plots of all sorts, the spots to look at, and the document's words
about them said as plainly as can be."""

import random

from tests.samples import MANY_FIGURES, NO_WORDS, WORDS, plainly_lies_in

EMPTY = (False, ())
ALL = (True, ())
NO_SPOTS = (EMPTY, ())
ALL_SPOTS = (ALL, ())
FAR = 10 ** 60 - 1
LIFT_WORDS = ("moved", "ever", "always", "known", "asof", "from")
NO_LIFTS = NO_WORDS + tuple(WORDS) + (
    "Moved", "move", "moved ", " ever", "evers", "alway", "as of", "asof\n", "FROM", "form", "knows", "know", "is",
)


def plots_of_all_sorts():
    big = MANY_FIGURES
    return [
        NO_SPOTS,
        ALL_SPOTS,
        ((False, (3, 7)), ()),
        ((True, (3, 7)), ()),
        ((True, (0,)), ()),
        (EMPTY, ((4, ALL),)),
        (ALL, ((4, EMPTY),)),
        (EMPTY, ((1, (False, (3, 7))),)),
        ((False, (3, 7)), ((0, EMPTY),)),
        ((False, (3, 7)), ((-2, (True, (3, 7))),)),
        (EMPTY, ((-5, (False, (-3, 2))), (0, (False, (0, 6))), (2, EMPTY))),
        ((True, (0, 1)), ((1, (False, (0, 1))), (2, ALL), (3, (True, (-4, 5))), (9, EMPTY))),
        ((False, (-1, 0, 5)), ((-1, (True, (5,))), (0, (True, (-1, 5))), (6, (False, (5,))))),
        (EMPTY, ((1, (False, (1, 5))), (2, (False, (1, 3))), (3, (False, (1, 5))), (4, (False, (2, 9))))),
        (EMPTY, ((-big, (False, (-big, big))), (big, (True, (0,))))),
        ((True, (big,)), ((big - 1, (True, (big - 1,))), (big, ALL))),
    ]


def random_reach(chance, borders=range(-6, 9), most=4):
    return (chance.random() < 0.35, tuple(sorted(chance.sample(list(borders), chance.randint(0, most)))))


def random_plot(chance, borders=range(-6, 9), turns=range(-4, 7), most=4):
    ground = chance.choice((EMPTY, random_reach(chance, borders)))
    steps = []
    last = ground
    for turn in sorted(chance.sample(list(turns), chance.randint(0, most))):
        reach = random_reach(chance, borders)
        if reach != last:
            steps.append((turn, reach))
            last = reach
    return (ground, tuple(steps))


def random_plots(many, seed):
    chance = random.Random(seed)
    return [random_plot(chance) for place in range(many)]


def great_plot(seed, steps=300, edges=30):
    chance = random.Random(seed)
    borders = range(-40, 80)
    plot = (random_reach(chance, borders, edges), tuple(
        (turn, random_reach(chance, borders, edges)) for turn in range(-steps, steps, 2)))
    return plot


def plainly_reach_at(plot, turn):
    ground, steps = plot
    reaches = [ground] + [reach for at, reach in steps if at <= turn]
    return reaches[-1]


def plainly_at(plot, day, turn):
    return plainly_lies_in(plainly_reach_at(plot, turn), day)


def reaches_in(plot):
    return [plot[0]] + [reach for turn, reach in plot[1]]


def telling_days(*plots):
    days = {-FAR, -1, 0, FAR}
    for plot in plots:
        for reach in reaches_in(plot):
            for edge in reach[1]:
                days |= {edge - 1, edge}
    return sorted(days)


def telling_turns(*plots):
    turns = {-FAR, -1, 0, 1, FAR}
    for plot in plots:
        for turn, reach in plot[1]:
            turns |= {turn - 1, turn}
    return sorted(turns)


def telling_spots(*plots):
    return [(day, turn) for turn in telling_turns(*plots) for day in telling_days(*plots)]


def plainly_lifted(plot, word, by, day, turn):
    if word == "moved":
        return plainly_at(plot, day - by, turn)
    if word == "ever":
        return plainly_reach_at(plot, turn) != EMPTY
    if word == "always":
        return plainly_reach_at(plot, turn) == ALL
    if word == "known":
        return any(plainly_at(plot, day, earlier) for earlier in telling_turns(plot) + [turn] if earlier <= turn)
    if word == "asof":
        return plainly_at(plot, day, min(turn, by))
    return plainly_at(plot, day, turn) and turn >= by


def is_plain_reach(thing):
    """A reach by the document's words, for what the program tells."""
    if type(thing) is not tuple or len(thing) != 2 or type(thing[0]) is not bool or type(thing[1]) is not tuple:
        return False
    return all(type(edge) is int for edge in thing[1]) and sorted(set(thing[1])) == list(thing[1])


def is_plain_plot(thing):
    if type(thing) is not tuple or len(thing) != 2 or type(thing[1]) is not tuple or not is_plain_reach(thing[0]):
        return False
    last = thing[0]
    for step in thing[1]:
        if type(step) is not tuple or len(step) != 2 or type(step[0]) is not int or not is_plain_reach(step[1]):
            return False
        if step[1] == last:
            return False
        last = step[1]
    turns = [turn for turn, reach in thing[1]]
    return sorted(set(turns)) == turns

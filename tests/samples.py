"""What several tests draw on: the words, what is no word, and reaches with the numbers to look at."""

import itertools

# What each word makes of (True, True), (True, False), (False, True), (False, False).
WORDS = {
    "both": (True, False, False, False),
    "either": (True, True, True, False),
    "less": (False, True, False, False),
    "just": (False, True, True, False),
}
TRUTHS = ((True, True), (True, False), (False, True), (False, False))
NO_WORDS = (
    "", " ", "Both", "BOTH", "eithEr", "both ", " both", "bo th", "less\n", "just\t", "bot", "b", "oth", "eithe",
    "les", "jus", "bothboth", "both either", "either or", "and", "or", "not", "xor", "neither", "more", "True",
    "\uff42oth", "both\0",
)
MANY_FIGURES = 10 ** 59 + 7


def asked(word, one, other):
    return WORDS[word][TRUTHS.index((one, other))]


def small_reaches(borders=(-4, -3, 0, 1, 5)):
    """Each reach whose edges are some of these borders."""
    found = []
    for many in range(len(borders) + 1):
        for edges in itertools.combinations(borders, many):
            found.append((False, edges))
            found.append((True, edges))
    return found


def reaches_of_all_sorts():
    big = MANY_FIGURES
    return [
        (False, ()), (True, ()),
        (False, (0,)), (True, (0,)), (False, (-7,)), (True, (12,)),
        (False, (3, 7)), (True, (3, 7)), (False, (-1, 0)), (True, (0, 1)),
        (False, (3, 4, 5, 6)), (True, (-3, -2, -1, 0, 1)), (False, (-9, -2, 4, 5, 30)),
        (False, (-big, big)), (True, (-big, -big + 1, 0, big - 1, big)), (False, (big,)), (True, (-big,)),
        (False, tuple(range(-150, 150))), (True, tuple(range(-450, 450, 3))),
    ]


def telling_numbers(*reaches):
    """Each edge, its neighbours, numbers about 0, between, and far out to both ends."""
    edges = sorted({edge for reach in reaches for edge in reach[1]})
    numbers = {-10 ** 60 + 1, -10 ** 30, -1, 0, 1, 10 ** 30, 10 ** 60 - 1}
    for edge in edges:
        numbers |= {edge - 1, edge, edge + 1}
    for low, high in zip(edges, edges[1:]):
        numbers.add((low + high) // 2)
    return sorted(numbers)


def plainly_lies_in(reach, number):
    first, edges = reach
    truth = first
    for edge in edges:
        if edge <= number:
            truth = not truth
    return truth

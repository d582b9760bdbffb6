"""What the tests of tables draw on: tables of all sorts, the spots to look at, and what a table is, plainly said."""

import random
import unittest

from heldwhen.tables import is_table
from tests.plot_samples import (
    ALL, ALL_SPOTS, EMPTY, NO_SPOTS, is_plain_plot, plainly_at, plots_of_all_sorts, random_plot, telling_spots,
)
from tests.samples import MANY_FIGURES

WEEK = (False, (3, 7))
WEEK_FROM_1 = (EMPTY, ((1, WEEK),))


def tables_of_all_sorts():
    """Tables by the length of their rows; the one without rows is of any."""
    plots = [plot for plot in plots_of_all_sorts() if plot != NO_SPOTS]
    return [
        [],
        [((), WEEK_FROM_1)],
        [((), ALL_SPOTS)],
        [((0,), ALL_SPOTS)],
        [((-2,), WEEK_FROM_1), ((0,), (ALL, ((4, EMPTY),))), ((5,), (WEEK, ()))],
        [((number,), plot) for number, plot in enumerate(plots, -6)],
        [((1, 1), WEEK_FROM_1), ((1, 2), (EMPTY, ((2, WEEK), (4, EMPTY)))), ((2, 1), ALL_SPOTS),
         ((2, 2), ((True, (0,)), ()))],
        [((number // 3, number % 3), plot) for number, plot in enumerate(plots, -6)],
        [((-MANY_FIGURES, 0, 1), WEEK_FROM_1), ((0, -MANY_FIGURES, 1), (WEEK, ())), ((0, 0, 0), ALL_SPOTS),
         ((0, 0, MANY_FIGURES), (EMPTY, ((-3, (True, (2,))),)))],
    ]


def random_pairs(chance, width, many, numbers=range(-2, 4)):
    found = []
    for place in range(many):
        row = tuple(chance.choice(list(numbers)) for column in range(width))
        found.append((row, random_plot(chance)))
    return found


def random_table(chance, width, many, numbers=range(-2, 4)):
    found = {row: plot for row, plot in random_pairs(chance, width, many, numbers) if plot != NO_SPOTS}
    return [(row, found[row]) for row in sorted(found)]


def random_tables(many, seed, width=2, rows=6):
    chance = random.Random(seed)
    return [random_table(chance, width, rows) for place in range(many)]


def plainly_cut(table, day, turn):
    return sorted(row for row, plot in table if plainly_at(plot, day, turn))


def table_spots(*tables):
    return telling_spots(*[plot for table in tables for row, plot in table])


def is_plain_table(thing):
    if type(thing) is not list:
        return False
    for entry in thing:
        if type(entry) is not tuple or len(entry) != 2 or type(entry[0]) is not tuple:
            return False
        if not all(type(number) is int for number in entry[0]):
            return False
        if not is_plain_plot(entry[1]) or entry[1] == NO_SPOTS:
            return False
    rows = [row for row, plot in thing]
    return len({len(row) for row in rows}) <= 1 and rows == sorted(set(rows))


class TableCase(unittest.TestCase):
    def assert_table(self, told):
        self.assertIs(is_plain_table(told), True, told)
        self.assertIs(is_table(told), True)

    def assert_cuts(self, told, parts, plainly):
        """The told table is, at each spot that matters, what is plainly made of its parts' rows there."""
        self.assert_table(told)
        for day, turn in table_spots(told, *parts):
            rows = [plainly_cut(part, day, turn) for part in parts]
            self.assertEqual(plainly_cut(told, day, turn), sorted(set(plainly(*rows))), (parts, day, turn))

    def assert_refused(self, refusal, call):
        with self.assertRaises(refusal) as caught:
            call()
        self.assertIs(type(caught.exception), refusal)

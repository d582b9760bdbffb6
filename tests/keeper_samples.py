"""What the tests of the keeper draw on: a history of tellings and cards, and what stands of it after a fall."""

import random

from heldwhen.algebra import lift_table
from heldwhen.keeper import Keeper
from heldwhen.shelf import Shelf
from tests.ask_samples import SMALL
from tests.telling_samples import book_of, random_telling


def tell_to(keeper, telling):
    word, name, numbers, low, high = telling
    return (keeper.tell if word == "tell" else keeper.strike)(name, numbers, low, high)


def lifted_tables(tellings, since, shapes=None):
    """The tables of a book of the tellings, lifted "from" a turn."""
    tables = book_of(tellings, SMALL if shapes is None else shapes).tables()
    return {name: lift_table(table, "from", since) for name, table in tables.items()}


class History:
    """A keeper on a shelf, what was told it, and by which strokes a telling or a card came to stand."""

    def __init__(self, shelf=None, tellings=(), since=0, number=0, drawer=None, shapes=None):
        self.shapes = SMALL if shapes is None else shapes
        self.shelf = Shelf() if shelf is None else shelf
        self.tellings = list(tellings)
        self.first = (len(self.tellings), since, number, drawer)
        self.since, self.number, self.drawer = since, number, drawer
        self.marks = []
        self.keeper = Keeper(self.shelf, self.shapes)

    def telling(self, telling):
        turn = tell_to(self.keeper, telling)
        self.tellings.append(telling)
        self.mark(len(self.shelf.strokes()) - 1)
        return turn

    def card(self, turn):
        number = self.keeper.card(turn)
        self.since, self.number = turn, number
        self.drawer = 2 if self.drawer == 1 else 1
        # The stroke ahead of the last one puts the card's last row.
        self.mark(len(self.shelf.strokes()) - 2)
        return number

    def mark(self, place):
        state = (len(self.tellings), self.since, self.number, self.drawer)
        self.marks.append((place, self.shelf.strokes()[place][1], state))

    def by_chance(self, chance, many):
        for place in range(many):
            if chance.random() < 0.75:
                self.telling(random_telling(chance, self.shapes))
            else:
                self.card(chance.randint(self.since, len(self.tellings)))
        return self

    def fallen(self, many, signs):
        """The history that stands after the fall, with a keeper that came up on the fallen shelf."""
        turn, since, number, drawer = self.first
        for place, text, state in self.marks:
            if place < many or place == many and signs >= len(text):
                turn, since, number, drawer = state
        shelf = self.shelf.fallen(many, signs)
        return History(shelf, self.tellings[:turn], since, number, drawer, self.shapes)


def random_history(seed, many=16):
    return History().by_chance(random.Random(seed), many)


def signs_to_tear(history, many):
    """How many signs of the next stroke's text may stand: none, some, all but one, all, more than it has."""
    strokes = history.shelf.strokes()
    text = strokes[many][1] if many < len(strokes) else None
    if text is None:
        return (0, 5)
    return sorted({0, 1, len(text) // 2, len(text) - 2, len(text) - 1, len(text), len(text) + 7})

"""The keeper: tables that stand on a shelf, as tellings and cards, and come up again whenever it fell."""

from heldwhen.algebra import lift_table
from heldwhen.entries import read_entry, read_first, read_last, write_entry, write_first, write_last
from heldwhen.errors import NoText, NoTurn
from heldwhen.tables import table_of
from heldwhen.tellings import check_telling, shape_of, told_on
from heldwhen.texts import read_telling, write_telling

# What stands in the place of a card where there is none: number, turn, since, entries, drawer.
NO_CARD = (0, 0, 0, (), 0)


def card_in(rows):
    """What a drawer's whole card tells: (number, turn, since, entries), or None where there is none."""
    if len(rows) < 2:
        return None
    try:
        first = read_first(rows[0])
        entries = [read_entry(row) for row in rows[1:-1]]
        many = read_last(rows[-1])
    except NoText:
        return None
    return first + (entries,) if many == len(entries) else None


def newest_card(shelf):
    cards = []
    for drawer in (1, 2):
        found = card_in(shelf.rows(drawer))
        if found is not None:
            cards.append(found + (drawer,))
    return max(cards, key=lambda found: found[0], default=NO_CARD)


def table_in(entries, name):
    return table_of([(row, plot) for of, row, plot in entries if of == name])


class Keeper:
    def __init__(self, shelf, shapes):
        newest = newest_card(shelf)
        self.shelf = shelf
        self.shape_list = list(shapes)
        self.card_number = newest[0]
        self.turn_now = newest[1]
        self.since_turn = newest[2]
        self.tables_now = dict([(shape[0], table_in(newest[3], shape[0])) for shape in shapes])
        self.card_drawer = newest[4]
        for text in shelf.rows(0):
            self.come_by(text)

    def come_by(self, text):
        """Takes a row of drawer 0 if it is the next telling, and passes it over if not."""
        try:
            found = read_telling(text)
        except NoText:
            return
        if found[0] == self.turn_now + 1:
            self.tell_on(found[1])

    def tell_on(self, telling):
        name = telling[1]
        keys = shape_of(self.shape_list, name)[1]
        self.turn_now += 1
        self.tables_now[name] = told_on(self.tables_now[name], keys, telling, self.turn_now)

    def take(self, telling):
        check_telling(self.shape_list, telling)
        self.shelf.put(0, write_telling(self.turn_now + 1, telling))
        self.tell_on(telling)
        return self.turn_now

    def tell(self, name, row, low, high):
        return self.take(("tell", name, row, low, high))

    def strike(self, name, key, low, high):
        return self.take(("strike", name, key, low, high))

    def card(self, turn):
        if turn < self.since_turn or turn > self.turn_now:
            raise NoTurn(f"turn {turn} is none from which on the keeper could know")
        self.since_turn = turn
        for name in list(self.tables_now):
            self.tables_now[name] = lift_table(self.tables_now[name], "from", turn)
        self.card_number += 1
        # Never over the newest whole card: until the new one is whole, that one is needed.
        self.card_drawer = 2 if self.card_drawer == 1 else 1
        self.write_card()
        return self.card_number

    def write_card(self):
        drawer = self.card_drawer
        many = 0
        self.shelf.clear(drawer)
        self.shelf.put(drawer, write_first(self.card_number, self.turn_now, self.since_turn))
        for name, table in self.tables_now.items():
            for row, plot in table:
                self.shelf.put(drawer, write_entry(name, row, plot))
                many += 1
        self.shelf.put(drawer, write_last(many))
        self.shelf.clear(0)

    def now(self):
        return self.turn_now

    def since(self):
        return self.since_turn

    def tables(self):
        return dict([(name, list(table)) for name, table in self.tables_now.items()])

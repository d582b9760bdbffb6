"""The book: all tellings, turn by turn, and the tables that they make."""

from heldwhen.errors import NoTurn
from heldwhen.reaches import lies_in, stretch_of
from heldwhen.tellings import check_telling, check_width, shape_of, told_on


def decides(telling, name, key, day):
    if telling[1] != name or telling[2][:len(key)] != key:
        return False
    return lies_in(stretch_of(telling[3], telling[4]), day)


class Book:
    def __init__(self, shapes):
        self.shape_list = list(shapes)
        self.tellings = []
        self.tables_now = dict([(shape[0], []) for shape in shapes])

    def take(self, telling):
        check_telling(self.shape_list, telling)
        name = telling[1]
        keys = shape_of(self.shape_list, name)[1]
        self.tellings.append(telling)
        turn = len(self.tellings)
        self.tables_now[name] = told_on(self.tables_now[name], keys, telling, turn)
        return turn

    def tell(self, name, row, low, high):
        return self.take(("tell", name, row, low, high))

    def strike(self, name, key, low, high):
        return self.take(("strike", name, key, low, high))

    def now(self):
        return len(self.tellings)

    def telling(self, turn):
        if turn < 1 or turn > len(self.tellings):
            raise NoTurn(f"nothing was told at turn {turn}")
        return self.tellings[turn - 1]

    def told(self):
        return list(self.tellings)

    def table(self, name):
        # Asked for its refusal: a name that no shape has.
        shape_of(self.shape_list, name)
        return list(self.tables_now[name])

    def tables(self):
        return dict([(name, list(table)) for name, table in self.tables_now.items()])

    def decided(self, name, key, day, turn):
        check_width(key, shape_of(self.shape_list, name)[1])
        for at in range(min(turn, len(self.tellings)), 0, -1):
            if decides(self.tellings[at - 1], name, key, day):
                return at
        return None

    def shapes(self):
        return list(self.shape_list)

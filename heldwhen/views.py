"""Views: answers that are kept and caught up, turn by turn, by the slices of the tables."""

from heldwhen.algebra import join_tables
from heldwhen.answers import made_of
from heldwhen.asks import parts_of
from heldwhen.plots import NO_SPOTS
from heldwhen.reaches import NO_NUMBERS, blend
from heldwhen.tables import slice_of
from heldwhen.tellings import last_reach, stepped


def is_lifted(ask, word):
    return ask[0] == "lifted" and ask[2] == word


# An ask within a view's ask: what the words "known" and "asof" make of it rests on turns gone by, so it remembers.
class Part:
    def __init__(self, ask):
        self.ask = ask
        self.parts = [Part(part) for part in parts_of(ask)]
        self.last_made = []
        self.made_from = None

    def slice_at(self, tables, turn):
        """The slice of the ask's answer at a turn; asked for each turn from 1 on, in their order."""
        if self.ask[0] == "table":
            return slice_of(tables[self.ask[1]], turn)
        if is_lifted(self.ask, "asof") and turn > self.ask[3]:
            return self.last_made
        slices = [part.slice_at(tables, turn) for part in self.parts]
        if is_lifted(self.ask, "from"):
            return slices[0] if turn >= self.ask[3] else []
        # Most turns change few tables: what rests on the others is not made anew.
        if slices != self.made_from:
            self.made_from = slices
            self.last_made = self.make(slices)
        return self.last_made

    def make(self, slices):
        if is_lifted(self.ask, "known"):
            return join_tables(self.last_made, slices[0], "either")
        if is_lifted(self.ask, "asof"):
            return slices[0]
        return made_of(self.ask, slices)


class View:
    def __init__(self, ask):
        self.whole = Part(ask)
        self.kept_turn = 0
        self.plots = {}

    def catch_up(self, tables, turn):
        touched = []
        for at in range(self.kept_turn + 1, turn + 1):
            touched.extend(self.touch(self.whole.slice_at(tables, at), at))
        self.kept_turn = max(self.kept_turn, turn)
        return touched

    def touch(self, table, turn):
        """Steps on the plots of the rows whose days in the slice are other than at the turn before, and tells these."""
        days = dict([(row, plot[0]) for row, plot in table])
        rows = sorted(set(self.plots) | set(days))
        touched = []
        for row in rows:
            plot = self.plots.get(row, NO_SPOTS)
            before = last_reach(plot)
            here = days.get(row, NO_NUMBERS)
            if here != before:
                self.plots[row] = stepped(plot, turn, here)
                touched.append((turn, row, blend(here, before, "less"), blend(before, here, "less")))
        return touched

    def kept(self):
        return self.kept_turn

    def table(self):
        return [(row, self.plots[row]) for row in sorted(self.plots)]

"""Tellings: what a key has from a turn on, on the days of a stretch; their refusals, and tables told on by them."""

from heldwhen.errors import NoStretch, NoTable, NoWidth
from heldwhen.plots import NO_SPOTS
from heldwhen.reaches import blend, stretch_of
from heldwhen.tables import table_of


def shape_of(shapes, name):
    for shape in shapes:
        if shape[0] == name:
            return shape
    raise NoTable(f"no table of the name {name!r}")


def check_width(numbers, width):
    many = len(numbers)
    if many != width:
        raise NoWidth(f"{many} numbers in the place of {width}")


def check_stretch(low, high):
    if low is not None and high is not None and high <= low:
        raise NoStretch(f"no days from {low} to {high}")


def is_tell(telling):
    return telling[0] == "tell"


def check_telling(shapes, telling):
    shape = shape_of(shapes, telling[1])
    check_width(telling[2], shape[2] if is_tell(telling) else shape[1])
    check_stretch(telling[3], telling[4])


def last_reach(plot):
    return plot[1][-1][1] if plot[1] else plot[0]


def stepped(plot, turn, reach):
    """The plot with this reach from a turn on that is beyond all its steps."""
    if reach == last_reach(plot):
        return plot
    return (plot[0], plot[1] + ((turn, reach),))


def told_on(table, keys, telling, turn):
    said = telling[2]
    days = stretch_of(telling[3], telling[4])
    plots = dict(table)
    if is_tell(telling):
        plots.setdefault(said, NO_SPOTS)
    pairs = []
    for row, plot in plots.items():
        if row[:keys] == said[:keys]:
            word = "either" if is_tell(telling) and row == said else "less"
            pairs.append((row, stepped(plot, turn, blend(last_reach(plot), days, word))))
        else:
            pairs.append((row, plot))
    return table_of(pairs)

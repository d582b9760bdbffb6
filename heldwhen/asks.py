"""Asks: what is to be made of which tables, one ask in another; their parts and their width."""

from heldwhen.algebra import is_picked
from heldwhen.errors import NoColumn, NoWidth
from heldwhen.lifts import lift
from heldwhen.plots import NO_SPOTS
from heldwhen.tellings import shape_of
from heldwhen.words import truth_by

FORMS = {
    "table": ("name",),
    "pick": ("ask", "column", "word", "number"),
    "twins": ("ask", "column", "column"),
    "columns": ("ask", "columns"),
    "joined": ("ask", "ask", "word"),
    "matched": ("ask", "ask", "pairs"),
    "counted": ("ask", "columns"),
    "summed": ("ask", "columns", "column"),
    "lifted": ("ask", "word", "number"),
}


def form_of(word):
    """What stands behind an ask's own word, thing by thing; None where no ask begins with the word."""
    return FORMS.get(word)


def formed(ask):
    """Pairs of what a thing in an ask is, and the thing."""
    return list(zip(form_of(ask[0]), ask[1:]))


def parts_of(ask):
    return [thing for kind, thing in formed(ask) if kind == "ask"]


def columns_by_part(ask):
    first = []
    second = []
    for kind, thing in formed(ask):
        if kind == "column":
            first.append(thing)
        if kind == "columns":
            first.extend(thing)
        if kind == "pairs":
            first.extend([pair[0] for pair in thing])
            second.extend([pair[1] for pair in thing])
    return [first, second]


def check_columns(ask, widths):
    for columns, width in zip(columns_by_part(ask), widths):
        for column in columns:
            if column < 0 or column >= width:
                raise NoColumn(f"no column {column} in rows of {width} numbers")


def check_alike(ask, widths):
    if ask[0] == "joined" and widths[0] != widths[1]:
        raise NoWidth(f"rows of unlike widths are joined: {widths}")


def check_word(ask):
    # Each is asked for its refusal alone, so that no word is listed twice in the program.
    if ask[0] == "pick":
        is_picked(0, ask[3], 0)
    if ask[0] == "joined":
        truth_by(ask[3], False, False)
    if ask[0] == "lifted":
        lift(NO_SPOTS, ask[2], ask[3])


def width_made(ask, widths):
    if ask[0] == "columns":
        return len(ask[2])
    if ask[0] == "matched":
        return widths[0] + widths[1]
    if ask[0] == "counted" or ask[0] == "summed":
        return len(ask[2]) + 1
    return widths[0]


def width_of(shapes, ask):
    if ask[0] == "table":
        return shape_of(shapes, ask[1])[2]
    widths = [width_of(shapes, part) for part in parts_of(ask)]
    check_columns(ask, widths)
    check_alike(ask, widths)
    check_word(ask)
    return width_made(ask, widths)

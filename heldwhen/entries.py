"""The rows of a card as texts: its first row, its entries (a table's row with its plot), its last row."""

from heldwhen.errors import NoText
from heldwhen.plots import is_plot
from heldwhen.texts import Reader, write_counted, write_number, write_numbers


def write_reach(reach):
    """The words of a reach."""
    return ["in" if reach[0] else "out"] + write_counted(reach[1])


def write_plot(plot):
    """The words of a plot."""
    words = write_reach(plot[0]) + [write_number(len(plot[1]))]
    for turn, reach in plot[1]:
        words.extend([write_number(turn)] + write_reach(reach))
    return words


def read_first_truth(word):
    if word not in ("in", "out"):
        raise NoText(f"neither in nor out: {word!r}")
    return word == "in"


def read_reach(reader):
    first = read_first_truth(reader.word())
    return (first, reader.numbers())


def read_plot(reader):
    ground = read_reach(reader)
    steps = tuple([(reader.number(), read_reach(reader)) for place in range(reader.many())])
    # Its reaches may have edges that don't rise, too: is_plot looks at all of it.
    if not is_plot((ground, steps)):
        raise NoText("what is written is no plot")
    return (ground, steps)


def end_by_point(reader):
    reader.exactly(".")
    reader.finish()


def write_entry(name, row, plot):
    return " ".join(["row", name] + write_counted(row) + write_plot(plot) + ["."])


def read_entry(text):
    reader = Reader(text)
    reader.exactly("row")
    name = reader.letters()
    row = reader.numbers()
    plot = read_plot(reader)
    end_by_point(reader)
    return (name, row, plot)


def write_first(number, turn, since):
    return " ".join(["card"] + write_numbers([number, turn, since]) + ["."])


def read_first(text):
    reader = Reader(text)
    reader.exactly("card")
    number = reader.many()
    turn = reader.many()
    since = reader.many()
    end_by_point(reader)
    return (number, turn, since)


def write_last(many):
    return " ".join(["done", write_number(many), "."])


def read_last(text):
    reader = Reader(text)
    reader.exactly("done")
    many = reader.many()
    end_by_point(reader)
    return many

"""The six words that lift a plot."""

from heldwhen.errors import NoWord
from heldwhen.plots import plot_of, reach_at
from heldwhen.reaches import ALL_NUMBERS, NO_NUMBERS, blend, moved_by


def all_or_none(truth):
    return ALL_NUMBERS if truth else NO_NUMBERS


def with_each_reach(plot, made):
    return plot_of(made(plot[0]), [(turn, made(reach)) for turn, reach in plot[1]])


def known_so_far(plot):
    known = plot[0]
    pairs = []
    for turn, reach in plot[1]:
        known = blend(known, reach, "either")
        pairs.append((turn, known))
    return plot_of(plot[0], pairs)


def as_of(plot, last):
    return (plot[0], tuple([step for step in plot[1] if step[0] <= last]))


def only_from(plot, first):
    later = [step for step in plot[1] if step[0] > first]
    return plot_of(NO_NUMBERS, [(first, reach_at(plot, first))] + later)


def lift(plot, word, by):
    if word == "moved":
        return with_each_reach(plot, lambda reach: moved_by(reach, by))
    if word == "ever":
        return with_each_reach(plot, lambda reach: all_or_none(reach != NO_NUMBERS))
    if word == "always":
        return with_each_reach(plot, lambda reach: all_or_none(reach == ALL_NUMBERS))
    if word == "known":
        return known_so_far(plot)
    if word == "asof":
        return as_of(plot, by)
    if word == "from":
        return only_from(plot, by)
    raise NoWord(f"no word that lifts a plot: {word!r}")

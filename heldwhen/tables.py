"""Tables: lists of pairs (row, plot), rows rising, each row with the spots at which it is there."""

from heldwhen.plots import NO_SPOTS, is_plot, lies_at, reach_at
from heldwhen.reaches import NO_NUMBERS, is_pair, is_rising, is_whole
from heldwhen.tallies import plots_by_weight


def is_row(thing):
    return isinstance(thing, tuple) and all([is_whole(number) for number in thing])


def is_entry(thing):
    return is_pair(thing) and is_row(thing[0]) and is_plot(thing[1]) and thing[1] != NO_SPOTS


def is_table(thing):
    if not isinstance(thing, list) or not all([is_entry(entry) for entry in thing]):
        return False
    rows = [entry[0] for entry in thing]
    return all([len(row) == len(rows[0]) for row in rows]) and is_rising(rows)


def all_spots(plots):
    if len(plots) == 1:
        return plots[0]
    # Plots without weight weigh 0 together wherever one of them lies: one walk, however many they are.
    return plots_by_weight([(plot, 0) for plot in plots]).get(0, NO_SPOTS)


def table_of(pairs):
    plots = {}
    for row, plot in pairs:
        plots.setdefault(row, []).append(plot)
    entries = [(row, all_spots(plots[row])) for row in sorted(plots)]
    return [entry for entry in entries if entry[1] != NO_SPOTS]


def cut_at(table, day, turn):
    return [row for row, plot in table if lies_at(plot, day, turn)]


def slice_of(table, turn):
    reaches = [(row, reach_at(plot, turn)) for row, plot in table]
    return [(row, (reach, ())) for row, reach in reaches if reach != NO_NUMBERS]

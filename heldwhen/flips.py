"""Flipped plots, with days for turns and turns for days; and the spot at which two plots are first apart."""

from heldwhen.plots import NO_SPOTS, blend_plots, plot_of, reach_at
from heldwhen.reaches import NO_NUMBERS, parting


def turns_far_below(plot):
    """The turns at which a day below all edges comes to lie in the plot, or ceases to."""
    inside = plot[0][0]
    turns = []
    for turn, reach in plot[1]:
        if reach[0] != inside:
            turns.append(turn)
        inside = reach[0]
    return turns


def turns_by_day(plot):
    """For each day the turns that part the days' truths from this day on, if they did not a day ahead, or cease to."""
    edges = plot[0][1]
    found = dict([(day, []) for day in edges])
    for turn, reach in plot[1]:
        # An edge that stands on both sides of the turn changes both sides alike, so it parts nothing anew.
        for day in sorted(set(edges) ^ set(reach[1])):
            found.setdefault(day, []).append(turn)
        edges = reach[1]
    return found


def flipped(plot):
    first = plot[0][0]
    turns = turns_far_below(plot)
    ground = (first, tuple(turns))
    ground_edges = dict([(day, True) for day in plot[0][1]])
    changes = turns_by_day(plot)
    pairs = []
    for day in sorted(changes):
        if day in ground_edges:
            first = not first
        turns = sorted(set(turns) ^ set(changes[day]))
        pairs.append((day, (first, tuple(turns))))
    return plot_of(ground, pairs)


def first_turn(plot):
    ground = plot[0]
    steps = plot[1]
    if not steps:
        return 0
    return steps[0][0] if ground == NO_NUMBERS else steps[0][0] - 1


def spot_apart(one, other):
    apart = blend_plots(one, other, "just")
    if apart == NO_SPOTS:
        return None
    turn = first_turn(apart)
    return (parting(reach_at(apart, turn), NO_NUMBERS), turn)

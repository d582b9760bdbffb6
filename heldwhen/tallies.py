"""Tallies: what plots that bear weights weigh together at each spot, worked out for all of them in one walk."""

from heldwhen.plots import plot_of
from heldwhen.reaches import NO_NUMBERS


def changes_by_edge(weighted):
    """For each edge how many reaches begin there, less those that end, and how much weight comes so."""
    changes = {}
    for reach, weight in weighted:
        sign = -1 if reach[0] else 1
        for edge in reach[1]:
            change = changes.get(edge, (0, 0))
            changes[edge] = (change[0] + sign, change[1] + sign * weight)
            sign = -sign
    return changes


def reaches_by_weight(weighted):
    """Of pairs (reach, weight): for each weight the reach of the numbers at which they weigh that, and some lie."""
    below = [weight for reach, weight in weighted if reach[0]]
    many = len(below)
    total = sum(below)
    # None where no reach lies: weights may make 0 together, so the total alone does not tell it.
    lowest = total if many > 0 else None
    last = lowest
    edges = {lowest: []}
    changes = changes_by_edge(weighted)
    for edge in sorted(changes):
        many += changes[edge][0]
        total += changes[edge][1]
        here = total if many > 0 else None
        if here != last:
            edges[last].append(edge)
            edges.setdefault(here, []).append(edge)
        last = here
    return dict([(told, (told == lowest, tuple(edges[told]))) for told in edges if told is not None])


def steps_by_turn(plots):
    """For each turn the pairs (place, reach) of the plots that have a step there."""
    steps = {}
    for place, plot in enumerate(plots):
        for turn, reach in plot[1]:
            steps.setdefault(turn, []).append((place, reach))
    return steps


def plots_by_weight(weighted):
    """Of pairs (plot, weight): for each weight the plot of the spots at which they weigh that, and some lie."""
    weights = [weight for plot, weight in weighted]
    reaches = [plot[0] for plot, weight in weighted]
    steps = steps_by_turn([plot for plot, weight in weighted])
    grounds = reaches_by_weight(list(zip(reaches, weights)))
    pairs = dict([(weight, []) for weight in grounds])
    last = grounds
    for turn in sorted(steps):
        for place, reach in steps[turn]:
            reaches[place] = reach
        here = reaches_by_weight(list(zip(reaches, weights)))
        for weight in here:
            pairs.setdefault(weight, []).append((turn, here[weight]))
        for weight in last:
            if weight not in here:
                pairs[weight].append((turn, NO_NUMBERS))
        last = here
    return dict([(weight, plot_of(grounds.get(weight, NO_NUMBERS), pairs[weight])) for weight in pairs])

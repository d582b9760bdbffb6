"""Plots: sets of spots (day, turn), told as (ground, steps): a reach of days, and the turns at which it changes."""

from heldwhen.reaches import blend, is_pair, is_reach, is_rising, is_whole, lies_in

NO_SPOTS = ((False, ()), ())


def reach_at(plot, turn):
    reach = plot[0]
    for step in plot[1]:
        if step[0] > turn:
            break
        reach = step[1]
    return reach


def lies_at(plot, day, turn):
    return lies_in(reach_at(plot, turn), day)


def is_step(thing):
    return is_pair(thing) and is_whole(thing[0]) and is_reach(thing[1])


def is_plot(thing):
    if not is_pair(thing):
        return False
    ground = thing[0]
    steps = thing[1]
    if not is_reach(ground) or not isinstance(steps, tuple):
        return False
    if not all([is_step(step) for step in steps]) or not is_rising([step[0] for step in steps]):
        return False
    # A plot is what is left when the steps that change nothing are left out.
    return len(plot_of(ground, list(steps))[1]) == len(steps)


def plot_of(ground, pairs):
    last = ground
    steps = []
    for turn, reach in pairs:
        if reach != last:
            steps.append((turn, reach))
            last = reach
    return (ground, tuple(steps))


def blend_plots(one, other, word):
    in_one = one[0]
    in_other = other[0]
    ground = blend(in_one, in_other, word)
    one_steps = dict(one[1])
    other_steps = dict(other[1])
    pairs = []
    for turn in sorted(set(one_steps) | set(other_steps)):
        in_one = one_steps.get(turn, in_one)
        in_other = other_steps.get(turn, in_other)
        pairs.append((turn, blend(in_one, in_other, word)))
    return plot_of(ground, pairs)


def turns_of(plot):
    return [step[0] for step in plot[1]]


def days_of(plot):
    days = list(plot[0][1])
    for step in plot[1]:
        days.extend(step[1][1])
    return sorted(set(days))

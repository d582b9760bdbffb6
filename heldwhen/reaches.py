"""Reaches: sets of whole numbers with finitely many borders, told as (first, edges)."""

from heldwhen.words import truth_by

NO_NUMBERS = (False, ())
ALL_NUMBERS = (True, ())


def is_whole(thing):
    # Python counts True and False among the ints; here they are no numbers.
    return isinstance(thing, int) and not isinstance(thing, bool)


def is_pair(thing):
    return isinstance(thing, tuple) and len(thing) == 2


def is_rising(things):
    return all([things[place - 1] < things[place] for place in range(1, len(things))])


def is_reach(thing):
    if not is_pair(thing):
        return False
    first = thing[0]
    edges = thing[1]
    if not isinstance(first, bool) or not isinstance(edges, tuple):
        return False
    # Whole numbers first: only of those is it sure that they can be compared.
    return all([is_whole(edge) for edge in edges]) and is_rising(edges)


def lies_in(reach, number):
    passed = len([edge for edge in reach[1] if edge <= number])
    return reach[0] if passed % 2 == 0 else not reach[0]


def stretch_of(low, high):
    if low is None and high is None:
        return ALL_NUMBERS
    if low is None:
        return (True, (high,))
    if high is None:
        return (False, (low,))
    if high <= low:
        return NO_NUMBERS
    return (False, (low, high))


def blend(one, other, word):
    in_one = one[0]
    in_other = other[0]
    first = truth_by(word, in_one, in_other)
    last = first
    one_borders = dict([(edge, True) for edge in one[1]])
    other_borders = dict([(edge, True) for edge in other[1]])
    edges = []
    for edge in sorted(set(one[1]) | set(other[1])):
        if edge in one_borders:
            in_one = not in_one
        if edge in other_borders:
            in_other = not in_other
        here = truth_by(word, in_one, in_other)
        # An edge stays only where the truth turns, so that equal sets are equal reaches.
        if here != last:
            edges.append(edge)
        last = here
    return (first, tuple(edges))


def moved_by(reach, by):
    return (reach[0], tuple([edge + by for edge in reach[1]]))


def runs_of(reach):
    ends = list(reach[1])
    if reach[0]:
        ends.insert(0, None)
    if len(ends) % 2 == 1:
        ends.append(None)
    return [(ends[place], ends[place + 1]) for place in range(0, len(ends), 2)]


def parting(one, other):
    apart = blend(one, other, "just")
    endless_below = apart[0]
    edges = apart[1]
    if not edges:
        return 0 if endless_below else None
    return edges[0] - 1 if endless_below else edges[0]

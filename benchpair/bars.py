"""Bars: what shows that no order is done sooner than a certain time."""

from benchpair.things import is_length, is_whole


def is_rising(value, many):
    """Tell whether the value is a list of counts below many, each above the one ahead of it."""
    if not isinstance(value, list):
        return False
    least = 0
    for count in value:
        if not is_whole(count) or not least <= count < many:
            return False
        least = count + 1
    return True


def seen_from(things, bench):
    """Tell each thing as a triple that begins with its length on this bench."""
    if bench == 1:
        return things
    return [(second, drying, first) for first, drying, second in things]


def part_things(things, bench, apart):
    """Tell the things apart and all others, both as they are seen from the bench."""
    told = [False] * len(things)
    for count in apart:
        told[count] = True
    seen = seen_from(things, bench)
    inside = [thing for count, thing in enumerate(seen) if told[count]]
    others = [thing for count, thing in enumerate(seen) if not told[count]]
    return inside, others


def may_stand_apart(inside):
    """Tell whether each of these is no longer on its bench than on the other one."""
    return all([here <= there for here, _, there in inside])


def reach_length(others, length):
    """Tell whether what the others are asked for beside this length holds of them."""
    reached = length == 0
    for here, drying, there in others:
        if here + drying >= length:
            reached = True
        elif here < there:
            return False
    return reached


def is_bar(things, bench, apart, length):
    """Tell whether these three are a bar of the things."""
    if not is_whole(bench) or bench not in (1, 2) or not is_length(length):
        return False
    # The counts come before the parting: a count below 0 would mark from the end.
    if not is_rising(apart, len(things)):
        return False
    inside, others = part_things(things, bench, apart)
    return may_stand_apart(inside) and reach_length(others, length)


def bar_worth(things, bench, apart, length):
    """Tell the time before which no order is done, of what is a bar of the things."""
    inside, others = part_things(things, bench, apart)
    return sum([thing[0] for thing in inside]) + length + sum([thing[2] for thing in others])

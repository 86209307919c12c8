"""What DOC.md tells, worked out plainly and without the package."""

import re
from itertools import permutations

LENGTH = "(0|[1-9][0-9]{0,59})"
THING = f"{LENGTH}/{LENGTH}/{LENGTH}"
WRITTEN = re.compile(f"-|{THING}( {THING})*")


def closed_form(things, order):
    """Tell starts and end without going step by step: the latest of what each is held up by."""
    begins = {}
    ends = [0]
    for place, count in enumerate(order):
        ahead = [things[other] for other in order[:place]]
        begin_first = sum(thing[0] for thing in ahead)
        held = []
        for holder in range(place + 1):
            made = sum(things[other][0] for other in order[:holder + 1])
            between = sum(things[other][2] for other in order[holder:place])
            held.append(made + things[order[holder]][1] + between)
        begins[count] = (begin_first, max(held))
        ends.append(max(held) + things[count][2])
    return [begins[count] for count in range(len(things))], ends[-1]


def end_by(things, order):
    """When the order is done: the longest way over bench 1, one thing's drying, and bench 2."""
    made = 0
    left = sum(thing[2] for thing in things)
    ways = [0]
    for count in order:
        made += things[count][0]
        ways.append(made + things[count][1] + left)
        left -= things[count][2]
    return max(ways)


def soonest_end(things):
    """When the soonest of all orders is done."""
    return min(end_by(things, order) for order in permutations(range(len(things))))


def turned(things):
    """The same things with the benches exchanged."""
    return [(second, drying, first) for first, drying, second in things]


def without(things, order, left_out):
    """The things and the order without one thing, the counts above it one less."""
    fewer = things[:left_out] + things[left_out + 1:]
    rest = [count - (count > left_out) for count in order if count != left_out]
    return fewer, rest


def order_holds(things, order):
    """Whether these are all counts of the things, each once."""
    return sorted(order) == list(range(len(things)))


def bar_holds(things, bench, apart, length):
    """Whether point 3 calls these a bar of the things."""
    if bench not in (1, 2) or length < 0:
        return False
    if apart != sorted(set(apart)) or not set(apart) <= set(range(len(things))):
        return False
    here, there = (0, 2) if bench == 1 else (2, 0)
    others = [things[count] for count in range(len(things)) if count not in apart]
    if any(things[count][here] > things[count][there] for count in apart):
        return False
    if any(thing[here] + thing[1] < length and thing[here] < thing[there] for thing in others):
        return False
    return length == 0 or any(thing[here] + thing[1] >= length for thing in others)


def bar_worth(things, bench, apart, length):
    """The worth that point 3 gives a bar."""
    here, there = (0, 2) if bench == 1 else (2, 0)
    parts = [things[count][here if count in apart else there] for count in range(len(things))]
    return sum(parts) + length


def soonest_holds(answer, things):
    """Whether the fields are as point 4 tells."""
    bar = (answer.bench, answer.apart, answer.length)
    if not order_holds(things, answer.order) or not bar_holds(things, *bar):
        return False
    return end_by(things, answer.order) == bar_worth(things, *bar)


def within_holds(answer, things, time):
    """Whether the field is as point 5 tells of a Within."""
    return order_holds(things, answer.order) and end_by(things, answer.order) <= time


def never_holds(answer, things, time):
    """Whether the fields are as point 5 tells of a Never."""
    bar = (answer.bench, answer.apart, answer.length)
    return bar_holds(things, *bar) and bar_worth(things, *bar) > time


def text_holds(text):
    """Whether point 6 writes some things so."""
    return WRITTEN.fullmatch(text) is not None

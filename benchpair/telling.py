"""The order that is done soonest, and whether any is done by a time."""

from benchpair.answers import Never, Soonest, Within
from benchpair.errors import BadTime
from benchpair.things import check_things, is_whole, make_in_order


def check_time(time):
    """Refuse what is no whole number."""
    if not is_whole(time):
        raise BadTime("a time is a whole number")


def soonest_order(things):
    """Tell an order that no other is sooner than: find_bar tells what shows it."""
    # Early goes what keeps bench 2 waiting least, late what is off bench 2 soonest.
    early = []
    late = []
    for count, (first, drying, second) in enumerate(things):
        if first <= second:
            early.append((first + drying, count))
        else:
            late.append((-(drying + second), count))
    return [count for _, count in sorted(early) + sorted(late)]


def find_last_wait(things, order):
    """Tell the last place of the order where bench 2 begins just as the thing is dry."""
    begins, _ = make_in_order(things, order)
    for place in reversed(range(len(order))):
        first, drying, _ = things[order[place]]
        begin_first, begin_second = begins[order[place]]
        if begin_second == begin_first + first + drying:
            return place
    return None


def find_bar(things, order):
    """Tell the bench, the things apart and the length of a bar that soonest_order is done at."""
    place = find_last_wait(things, order)
    if place is None:
        return 1, [], 0
    # Behind this place bench 2 makes no pause, so the order is done just when bench 1 is through
    # up to here, the thing is dry, and bench 2 is through from here on: the worth of this bar.
    first, drying, second = things[order[place]]
    if first <= second:
        return 1, sorted(order[:place]), first + drying
    return 2, sorted(order[place + 1:]), drying + second


def soonest(things):
    """Tell an order and a bar that shows that none is done sooner."""
    check_things(things)
    order = soonest_order(things)
    bench, apart, length = find_bar(things, order)
    return Soonest(order, bench, apart, length)


def within(things, time):
    """Tell an order that is done by the time, or a bar that shows that there is none."""
    check_things(things)
    check_time(time)
    order = soonest_order(things)
    _, end = make_in_order(things, order)
    if end <= time:
        return Within(order)
    bench, apart, length = find_bar(things, order)
    return Never(bench, apart, length)

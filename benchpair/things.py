"""Things, orders of them, and when each thing begins on each bench by an order."""

from benchpair.errors import BadOrder, BadThings


def is_whole(value):
    """Tell whether the value is a whole number, which True and False are not."""
    return isinstance(value, int) and not isinstance(value, bool)


def is_length(value):
    """Tell whether the value is a whole number, 0 or more."""
    return is_whole(value) and value >= 0


def is_thing(value):
    """Tell whether the value is a triple of lengths."""
    if not isinstance(value, tuple) or len(value) != 3:
        return False
    return all([is_length(part) for part in value])


def is_order(value, many):
    """Tell whether the value is a list of all counts below many, each once."""
    if not isinstance(value, list) or len(value) != many:
        return False
    told = [False] * many
    for count in value:
        # The bounds come before the index: a count below 0 would read from the end.
        if not is_whole(count) or not 0 <= count < many or told[count]:
            return False
        told[count] = True
    return True


def check_things(things):
    """Refuse what is no list of triples of lengths."""
    if not isinstance(things, list):
        raise BadThings("things are no list")
    for count, thing in enumerate(things):
        # The thing itself is not shown: Python may be unable to write out what it holds.
        if not is_thing(thing):
            raise BadThings(f"thing {count} is no triple of whole numbers, 0 or more")


def check_order(order, many):
    """Refuse what is no order of that many things."""
    if not is_order(order, many):
        raise BadOrder(f"an order is a list of all counts below {many}, each once")


def make_in_order(things, order):
    """Tell when each thing begins on both benches, by its count, and when the last is made."""
    begins = [(0, 0)] * len(things)
    free_first = 0
    free_second = 0
    for count in order:
        first, drying, second = things[count]
        begin_second = max(free_first + first + drying, free_second)
        begins[count] = (free_first, begin_second)
        free_first += first
        free_second = begin_second + second
    return begins, free_second


def done(things, order):
    """Tell when the last thing of the order is made on bench 2, 0 if there is none."""
    check_things(things)
    check_order(order, len(things))
    _, end = make_in_order(things, order)
    return end


def starts(things, order):
    """Tell for each thing, by its count, when it begins on bench 1 and when on bench 2."""
    check_things(things)
    check_order(order, len(things))
    begins, _ = make_in_order(things, order)
    return begins

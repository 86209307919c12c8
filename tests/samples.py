"""Values that several tests hand in: of wrong kinds, and things of many shapes."""

from fractions import Fraction

HUGE = 10 ** 5000


class Plain:
    """An own class of which nothing is told."""


class Thorny:
    """An own class whose objects fail at whatever is asked of them."""

    def _fail(self, *rest):
        raise RuntimeError("this value was asked")

    __eq__ = __ne__ = __lt__ = __le__ = __gt__ = __ge__ = _fail
    __hash__ = __bool__ = __len__ = __iter__ = __index__ = __int__ = _fail
    __getitem__ = __contains__ = __add__ = __radd__ = __str__ = __repr__ = _fail


def own_function():
    """A function that is handed in as a value."""


def odd_values():
    """Label and value of each kind that is no number, no tuple and no list."""
    return [
        ("True", True), ("False", False), ("None", None),
        ("an empty text", ""), ("a text", "012"), ("bytes", b"012"), ("empty bytes", b""),
        ("an empty dict", {}), ("a dict", {0: (1, 2, 3), 1: 1, 2: 2}),
        ("an empty set", set()), ("a set", {0, 1, 2}), ("a frozen set", frozenset([0, 1, 2])),
        ("a range", range(3)), ("an empty range", range(0)),
        ("an iterator", iter([0, 1, 2])), ("a zip", zip([1], [2])),
        ("a generator", (part for part in [0, 1, 2])),
        ("a function", own_function), ("a builtin function", len),
        ("a class", Plain), ("a builtin class", list), ("an object", Plain()),
        ("an object that fails", Thorny()), ("a fraction", Fraction(2, 1)),
    ]


def no_lists():
    """Label and value of each kind that is no list."""
    return odd_values() + [
        ("0", 0), ("1", 1), ("-1", -1), ("a large number", HUGE),
        ("the empty tuple", ()), ("a triple", (1, 2, 3)),
        ("a tuple of triples", ((1, 2, 3), (4, 5, 6), (7, 8, 9))),
        ("a tuple of counts", (0, 1, 2)),
    ]


def no_things():
    """Label and value of what is no triple, to stand as one thing of a list."""
    return odd_values() + [
        ("0", 0), ("3", 3), ("-1", -1), ("a large number", HUGE),
        ("the empty tuple", ()), ("one length", (1,)), ("a pair", (1, 2)),
        ("four lengths", (1, 2, 3, 4)), ("six lengths", (1, 2, 3, 4, 5, 6)),
        ("a list of three", [1, 2, 3]), ("the empty list", []),
        ("a triple in a list", [(1, 2, 3)]), ("a triple in a tuple", ((1, 2, 3),)),
    ]


def no_lengths():
    """Label and value of what is no length, to stand as one part of a triple."""
    return odd_values() + [
        ("-1", -1), ("-7", -7), ("a large number below 0", -HUGE),
        ("the empty list", []), ("a length in a list", [1]), ("a list of three", [1, 2, 3]),
        ("the empty tuple", ()), ("a length in a tuple", (1,)), ("a triple", (1, 2, 3)),
    ]


def no_counts(many):
    """Label and value of what is no count of that many things, to stand in an order."""
    return odd_values() + [
        ("many", many), ("many and one", many + 1), ("a large number", HUGE),
        ("-1", -1), ("many below 0", -many), ("below all", -many - 1),
        ("a large number below 0", -HUGE),
        ("the empty list", []), ("a count in a list", [0]),
        ("the empty tuple", ()), ("a count in a tuple", (0,)), ("a triple", (0, 1, 2)),
    ]


def replaced(values, place, value):
    """A copy of a list or tuple with another value at one place."""
    parts = list(values)
    parts[place] = value
    return type(values)(parts)


def mixed_numbers(many, below, seed):
    """Numbers that look mixed and are the same at every run."""
    state = seed
    numbers = []
    for _ in range(many):
        state = (state * 1103515245 + 12345) % 2 ** 31
        numbers.append((state >> 12) % below)
    return numbers


def mixed_things(many, below, seed):
    """Things with lengths below a number that look mixed and are the same at every run."""
    numbers = mixed_numbers(3 * many, below, seed)
    return [tuple(numbers[at:at + 3]) for at in range(0, 3 * many, 3)]


def mixed_order(many, seed):
    """An order that looks mixed and is the same at every run."""
    keys = mixed_numbers(many, 10 ** 5, seed)
    return sorted(range(many), key=lambda count: (keys[count], count))


def bad_things():
    """Label and value of what is no things: no list, or one thing or length in it is none."""
    good = [(3, 2, 4), (1, 5, 2), (0, 0, 0)]
    bad = no_lists()
    for label, value in no_things():
        bad.append((f"{label} as the only thing", [value]))
        for place in range(len(good)):
            bad.append((f"{label} as thing {place}", replaced(good, place, value)))
    for label, value in no_lengths():
        for part in range(3):
            bad.append((f"{label} as length {part}", [replaced((1, 1, 1), part, value)]))
            thing = replaced(good[2], part, value)
            bad.append((f"{label} as length {part} of the last", replaced(good, 2, thing)))
    itself = [(1, 2, 3)]
    itself.append(itself)
    return bad + [("things that hold themselves", itself)]


def no_times():
    """Label and value of what is no whole number, to stand as a time."""
    return odd_values() + [
        ("the empty list", []), ("a number in a list", [1]), ("things", [(1, 2, 3)]),
        ("the empty tuple", ()), ("a number in a tuple", (1,)), ("a triple", (1, 2, 3)),
        ("figures", "7"), ("no figures", "-"),
    ]


def shaped_things(many, below, seed):
    """Label and things of each shape that the order hangs on, the same at every run."""
    mixed = mixed_things(many, below, seed)
    return [
        ("mixed", mixed),
        ("alike", mixed[:1] * many),
        ("without drying", [(first, 0, second) for first, _, second in mixed]),
        ("drying alone", [(0, drying, 0) for _, drying, _ in mixed]),
        ("not made on bench 1", [(0, drying, second) for _, drying, second in mixed]),
        ("not made on bench 2", [(first, drying, 0) for first, drying, _ in mixed]),
        ("longer on bench 1", [(one + two + 1, drying, two) for one, drying, two in mixed]),
        ("longer on bench 2", [(one, drying, one + two + 1) for one, drying, two in mixed]),
        ("as long on both", [(first, drying, first) for first, drying, _ in mixed]),
        ("drying far longer", [(one, drying * below * many, two) for one, drying, two in mixed]),
        ("drying far longer by the same", [(one, below * many, two) for one, _, two in mixed]),
        ("of no length", [(0, 0, 0)] * many),
    ]

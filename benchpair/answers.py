"""What is told of things: the order that is done soonest, or what shows that none is sooner."""

from benchpair.bars import bar_worth, is_bar
from benchpair.things import is_order, make_in_order


class Answer:
    """What every answer is."""


class Soonest(Answer):
    """An order, and a bar whose worth is when the order is done."""

    def __init__(self, order, bench, apart, length):
        self.order = list(order)
        self.bench = bench
        self.apart = list(apart)
        self.length = length

    def shows(self, things):
        """Tell whether the order is one of these things, the bar too, and done at its worth."""
        if not is_order(self.order, len(things)):
            return False
        if not is_bar(things, self.bench, self.apart, self.length):
            return False
        _, end = make_in_order(things, self.order)
        return end == bar_worth(things, self.bench, self.apart, self.length)


class Within(Answer):
    """An order that is done by a time, or sooner."""

    def __init__(self, order):
        self.order = list(order)

    def shows(self, things, time):
        """Tell whether the order is one of these things and is done by the time."""
        if not is_order(self.order, len(things)):
            return False
        _, end = make_in_order(things, self.order)
        return end <= time


class Never(Answer):
    """A bar whose worth is more than a time."""

    def __init__(self, bench, apart, length):
        self.bench = bench
        self.apart = list(apart)
        self.length = length

    def shows(self, things, time):
        """Tell whether the bar is one of these things and its worth is more than the time."""
        if not is_bar(things, self.bench, self.apart, self.length):
            return False
        return bar_worth(things, self.bench, self.apart, self.length) > time

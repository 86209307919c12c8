"""Bars and answers made by hand: points 3 to 5, and what point 1 says of answers."""

import unittest
from copy import deepcopy
from itertools import product

from benchpair.answers import Answer, Never, Soonest, Within
from tests.oracles import (
    bar_holds, bar_worth, end_by, never_holds, soonest_end, soonest_holds, turned, within_holds,
)
from tests.samples import HUGE, mixed_numbers, mixed_things, no_lists

THREE = [(3, 2, 4), (1, 5, 2), (2, 0, 3)]
BOTH = [(2, 1, 2), (2, 9, 2)]
FALLING = [(5, 1, 2), (4, 0, 1), (1, 3, 4)]
LARGE = 10 ** 99

# Worked out by hand: things, a bar of them, its worth.
BARS = [
    ([], (1, [], 0), 0),
    ([], (2, [], 0), 0),
    ([(3, 2, 4)], (1, [0], 0), 3),
    ([(3, 2, 4)], (1, [], 0), 4),
    ([(3, 2, 4)], (1, [], 1), 5),
    ([(3, 2, 4)], (1, [], 5), 9),
    ([(3, 2, 4)], (2, [], 0), 3),
    ([(3, 2, 4)], (2, [], 6), 9),
    ([(4, 2, 3)], (1, [], 6), 9),
    ([(4, 2, 3)], (2, [0], 0), 3),
    ([(4, 2, 3)], (2, [], 5), 9),
    ([(0, 0, 0)], (1, [], 0), 0),
    ([(0, 0, 0)], (2, [0], 0), 0),
    ([(0, 7, 0)], (1, [], 7), 7),
    ([(0, 7, 0)], (2, [], 7), 7),
    ([(2, 1, 2)], (1, [0], 0), 2),
    ([(2, 1, 2)], (2, [0], 0), 2),
    ([(2, 1, 2)], (1, [], 2), 4),
    ([(2, 1, 2)], (1, [], 3), 5),
    (BOTH, (1, [], 11), 15),
    (BOTH, (1, [0], 11), 15),
    (BOTH, (2, [], 11), 15),
    (BOTH, (2, [0], 11), 15),
    (BOTH, (1, [1], 3), 7),
    (BOTH, (1, [0, 1], 0), 4),
    (THREE, (1, [], 0), 9),
    (THREE, (1, [], 1), 10),
    (THREE, (1, [], 2), 11),
    (THREE, (1, [2], 5), 13),
    (THREE, (1, [0, 2], 6), 13),
    (THREE, (1, [0, 1], 2), 9),
    (THREE, (1, [0, 1, 2], 0), 6),
    (THREE, (2, [], 0), 6),
    (THREE, (2, [], 3), 9),
    (THREE, (2, [], 7), 13),
    (turned(THREE), (2, [0, 2], 6), 13),
    (turned(THREE), (1, [], 7), 13),
    (FALLING, (1, [2], 6), 10),
    (FALLING, (1, [], 4), 11),
    (FALLING, (2, [0, 1], 7), 11),
    (FALLING, (2, [1], 3), 10),
    (FALLING, (2, [], 1), 11),
    ([(LARGE, 0, LARGE + 1)], (1, [], LARGE), 2 * LARGE + 1),
    ([(LARGE, LARGE, LARGE + 1), (0, 7, 0)], (1, [], 2 * LARGE), 3 * LARGE + 1),
]

# Worked out by hand: things, and what breaks one condition of a bar of them.
NO_BARS = [
    # The bench is neither 1 nor 2.
    ([], (0, [], 0)), ([], (3, [], 0)), ([], (-1, [], 0)), (THREE, (0, [0, 2], 6)),
    (THREE, (3, [0, 2], 6)), (THREE, (-1, [0, 2], 6)), (THREE, (-2, [], 7)), (THREE, (12, [], 0)),
    # The counts do not rise, or are none of the things'.
    (THREE, (1, [2, 0], 6)), (THREE, (1, [0, 0], 6)), (THREE, (1, [2, 2], 5)),
    (THREE, (1, [0, 2, 2], 6)), (THREE, (1, [0, 2, 1], 0)), (THREE, (1, [2, 1, 0], 0)),
    (THREE, (1, [-1], 5)), (THREE, (1, [-3, 2], 6)), (THREE, (1, [0, -1], 6)),
    (THREE, (1, [3], 0)), (THREE, (1, [0, 2, 3], 6)), (THREE, (1, [HUGE], 0)),
    (THREE, (1, [-HUGE], 0)), ([], (1, [0], 0)), ([], (2, [-1], 0)),
    # The length is below 0.
    ([], (1, [], -1)), (THREE, (1, [], -1)), (THREE, (2, [], -7)), (THREE, (1, [0, 1, 2], -1)),
    # A thing apart is longer on this bench than on the other.
    ([(4, 2, 3)], (1, [0], 0)), ([(3, 2, 4)], (2, [0], 0)), (FALLING, (1, [0], 0)),
    (FALLING, (1, [1, 2], 6)), (FALLING, (2, [2], 3)), (FALLING, (2, [0, 1, 2], 0)),
    # Another thing is below the length and shorter on this bench.
    (THREE, (1, [], 5)), (THREE, (1, [], 3)), (THREE, (1, [0], 6)), (THREE, (1, [2], 6)),
    (FALLING, (1, [], 5)), (FALLING, (1, [], 6)), (turned(THREE), (2, [], 5)),
    ([(1, 1, 2), (5, 5, 1)], (1, [], 3)),
    # No other thing reaches the length.
    ([], (1, [], 1)), ([], (2, [], 1)), ([(3, 2, 4)], (1, [0], 1)), ([(2, 1, 2)], (1, [], 4)),
    ([(4, 2, 3)], (1, [], 7)), (THREE, (2, [], 8)), (THREE, (1, [0, 1, 2], 1)),
    (THREE, (1, [0, 1], 3)), (BOTH, (1, [1], 4)), (BOTH, (2, [], 12)), (THREE, (2, [], HUGE)),
]


def small_things():
    """Things that are few and short, all of one and some of more."""
    for thing in product(range(3), repeat=3):
        yield [thing]
    yield from ([], [(0, 0, 0)] * 2, [(1, 1, 1)] * 3, THREE, BOTH, FALLING)
    for seed in range(60):
        yield mixed_things(2 + seed % 2, (3, 4)[seed % 2], seed)


def small_bars(many):
    """What may be a bar of that many things and what is none, bench by bench."""
    counts = [list(told) for size in range(4) for told in product(range(-1, many + 1), repeat=size)]
    for bench, apart, length in product((-1, 0, 1, 2, 3), counts, range(-1, 8)):
        yield bench, apart, length


def hostile_fields():
    """Whole numbers and lists of such that are likely to trip what reads them."""
    numbers = [-HUGE, -1, 0, 1, 2, 3, 7, HUGE]
    counts = [[], [0], [0, 1, 2], [2, 1, 0], [0, 2], [0, 0, 0], [-1], [-1, -2, -3], [3]]
    counts += [[HUGE, 0, 1], [-HUGE], [0, 1], [0, 1, 2, 3], list(range(40)), [1, 0, 2]]
    return numbers, counts


class BarsTest(unittest.TestCase):
    """What a bar is, asked through Never: it shows more than a time if it is worth that."""

    def test_bars_by_hand(self):
        for things, bar, worth in BARS:
            with self.subTest(things=things, bar=bar):
                answer = Never(*bar)
                self.assertIs(answer.shows(things, worth - 1), True)
                self.assertIs(answer.shows(things, -HUGE), True)
                self.assertIs(answer.shows(things, worth), False)
                self.assertIs(answer.shows(things, worth + 1), False)
                self.assertIs(answer.shows(things, HUGE), False)

    def test_no_bars_by_hand(self):
        for things, bar in NO_BARS:
            with self.subTest(things=things, bench=bar[0], many=len(bar[1])):
                for time in (-HUGE, -1, 0, 5, HUGE):
                    self.assertIs(Never(*bar).shows(things, time), False)

    def test_the_oracle_by_hand(self):
        for things, bar, worth in BARS:
            self.assertTrue(bar_holds(things, *bar), (things, bar))
            self.assertEqual(bar_worth(things, *bar), worth, (things, bar))
        for things, bar in NO_BARS:
            self.assertFalse(bar_holds(things, *bar))

    def test_all_small_bars(self):
        for things in small_things():
            for bar in small_bars(len(things)):
                answer = Never(*bar)
                if bar_holds(things, *bar):
                    worth = bar_worth(things, *bar)
                    self.assertIs(answer.shows(things, worth - 1), True, (things, bar))
                    self.assertIs(answer.shows(things, worth), False, (things, bar))
                else:
                    self.assertIs(answer.shows(things, -1), False, (things, bar))

    def test_no_order_is_done_sooner_than_a_bar_is_worth(self):
        for things in small_things():
            bars = [bar for bar in small_bars(len(things)) if bar_holds(things, *bar)]
            worths = [bar_worth(things, *bar) for bar in bars]
            self.assertLessEqual(max(worths), soonest_end(things), things)


class SoonestTest(unittest.TestCase):
    def test_by_hand(self):
        for order in ([2, 0, 1], [0, 1, 2], [2, 1, 0]):
            end = end_by(THREE, order)
            for things, bar, worth in BARS:
                if things == THREE:
                    with self.subTest(order=order, bar=bar):
                        told = Soonest(order, *bar).shows(THREE)
                        self.assertIs(told, end == worth)
        self.assertIs(Soonest([2, 0, 1], 1, [0, 2], 6).shows(THREE), True)
        self.assertIs(Soonest([1, 0, 2], 2, [0, 2], 6).shows(turned(THREE)), True)
        self.assertIs(Soonest([2, 0, 1], 2, [0, 2], 6).shows(THREE), False)
        self.assertIs(Soonest([], 1, [], 0).shows([]), True)
        self.assertIs(Soonest([], 2, [], 0).shows([]), True)
        self.assertIs(Soonest([], 1, [], 0).shows(THREE), False)
        self.assertIs(Soonest([0], 1, [], 0).shows([(0, 0, 0)]), True)

    def test_a_worth_beside_the_end(self):
        # The order is done at 14, the bars are worth 13 and 9.
        self.assertIs(Soonest([0, 1, 2], 1, [0, 2], 6).shows(THREE), False)
        self.assertIs(Soonest([2, 0, 1], 1, [], 0).shows(THREE), False)

    def test_no_bars(self):
        for things, bar in NO_BARS:
            for order in ([], [0], [0, 1], [2, 0, 1], [1, 0, 2]):
                self.assertIs(Soonest(order, *bar).shows(things), False)

    def test_no_orders(self):
        orders = [[], [2, 0], [2, 0, 0], [2, 0, 1, 1], [2, 0, 1, 3], [2, 0, -1], [2, 0, 3]]
        for order in orders + [[-1, 0, 1], [2, 0, 4], [2, 0, HUGE], [-HUGE, 0, 1], [0], [1, 1, 1]]:
            self.assertIs(Soonest(order, 1, [0, 2], 6).shows(THREE), False)


class WithinTest(unittest.TestCase):
    def test_by_hand(self):
        for order, end in (([2, 0, 1], 13), ([0, 1, 2], 14), ([1, 0, 2], 15)):
            with self.subTest(order=order):
                answer = Within(order)
                self.assertIs(answer.shows(THREE, end), True)
                self.assertIs(answer.shows(THREE, end + 1), True)
                self.assertIs(answer.shows(THREE, HUGE), True)
                self.assertIs(answer.shows(THREE, end - 1), False)
                self.assertIs(answer.shows(THREE, 0), False)
                self.assertIs(answer.shows(THREE, -HUGE), False)

    def test_of_no_things(self):
        self.assertIs(Within([]).shows([], 0), True)
        self.assertIs(Within([]).shows([], 1), True)
        self.assertIs(Within([]).shows([], -1), False)
        self.assertIs(Within([0]).shows([], 1), False)
        self.assertIs(Within([]).shows([(0, 0, 0)], 1), False)

    def test_no_orders(self):
        for order in ([], [0, 1], [0, 1, 1], [0, 1, 2, 2], [0, 1, 2, 3], [0, 1, 3], [0, 1, -1],
                      [-3, -2, -1], [0, 1, HUGE], [0, 1, -HUGE]):
            self.assertIs(Within(order).shows(THREE, HUGE), False)


class FieldsTest(unittest.TestCase):
    def test_fields_have_the_names_of_the_interface(self):
        answer = Soonest(order=[2, 0, 1], bench=1, apart=[0, 2], length=6)
        self.assertEqual((answer.order, answer.bench, answer.apart, answer.length),
                         ([2, 0, 1], 1, [0, 2], 6))
        self.assertEqual(Within(order=[1, 0]).order, [1, 0])
        never = Never(bench=2, apart=[3], length=9)
        self.assertEqual((never.bench, never.apart, never.length), (2, [3], 9))
        for made in (answer, Within([]), never):
            self.assertIsInstance(made, Answer)

    def test_whatever_is_handed_in_stands_there(self):
        numbers, counts = hostile_fields()
        for told, (bench, length) in product(counts, product(numbers, repeat=2)):
            for answer in (Soonest(told, bench, told, length), Never(bench, told, length)):
                self.assertTrue(answer.apart == told and answer.apart is not told)
                self.assertTrue((answer.bench, answer.length) == (bench, length))
            for answer in (Soonest(told, bench, [], length), Within(told)):
                self.assertTrue(answer.order == told and answer.order is not told)

    def test_a_list_handed_in_is_copied(self):
        order, apart = [2, 0, 1], [0, 2]
        answers = (Soonest(order, 1, apart, 6), Within(order), Never(1, apart, 6))
        order.append(3)
        apart[0] = 7
        self.assertEqual((answers[0].order, answers[0].apart), ([2, 0, 1], [0, 2]))
        self.assertEqual(answers[1].order, [2, 0, 1])
        self.assertEqual(answers[2].apart, [0, 2])
        self.assertIs(answers[0].shows(THREE), True)
        self.assertIs(answers[1].shows(THREE, 13), True)
        self.assertIs(answers[2].shows(THREE, 12), True)

    def test_one_list_handed_in_twice_is_two_fields(self):
        counts = [0]
        answer = Soonest(counts, 1, counts, 0)
        answer.order.append(1)
        self.assertEqual((answer.apart, counts), ([0], [0]))

    def test_a_changed_field_of_soonest(self):
        def made():
            return Soonest([2, 0, 1], 1, [0, 2], 6)
        for field, value in (("order", [0, 1, 2]), ("order", []), ("bench", 2), ("bench", 0),
                             ("apart", [0]), ("apart", [2]), ("length", 5), ("length", 7)):
            with self.subTest(field=field, value=value):
                answer = made()
                setattr(answer, field, value)
                self.assertIs(answer.shows(THREE), False)
                setattr(answer, field, getattr(made(), field))
                self.assertIs(answer.shows(THREE), True)
        for field in ("order", "apart"):
            answer = made()
            getattr(answer, field).append(1)
            self.assertIs(answer.shows(THREE), False)
            getattr(answer, field).pop()
            self.assertIs(answer.shows(THREE), True)

    def test_a_field_changed_to_what_holds(self):
        answer = Soonest([], 0, [9, 9], -1)
        self.assertIs(answer.shows(THREE), False)
        answer.order, answer.bench, answer.apart, answer.length = [2, 0, 1], 2, [], 7
        self.assertIs(answer.shows(THREE), True)
        answer.order.reverse()
        self.assertIs(answer.shows(THREE), False)

    def test_a_changed_field_of_within(self):
        answer = Within([2, 0, 1])
        answer.order.append(0)
        self.assertIs(answer.shows(THREE, 13), False)
        answer.order = [0, 1, 2]
        self.assertIs(answer.shows(THREE, 13), False)
        self.assertIs(answer.shows(THREE, 14), True)
        answer.order[0], answer.order[2] = 2, 0
        self.assertIs(answer.shows(THREE, 14), True)

    def test_a_changed_field_of_never(self):
        answer = Never(1, [0, 2], 6)
        answer.apart.append(1)
        self.assertIs(answer.shows(THREE, 5), False)
        answer.apart.sort()
        self.assertIs(answer.shows(THREE, 5), False)
        answer.length = 0
        self.assertIs(answer.shows(THREE, 5), True)
        self.assertIs(answer.shows(THREE, 6), False)
        answer.bench = 2
        self.assertIs(answer.shows(THREE, 5), False)
        answer.apart = []
        self.assertIs(answer.shows(THREE, 5), True)
        answer.length = 7
        self.assertIs(answer.shows(THREE, 12), True)

    def test_true_and_false_are_no_numbers_in_fields(self):
        self.assertIs(Never(1, [0], 0).shows([(1, 1, 1)], 0), True)
        for bench, apart, length in ((True, [0], 0), (1, [False], 0), (1, [0], False)):
            self.assertIs(Never(bench, apart, length).shows([(1, 1, 1)], 0), False)
        self.assertIs(Within([0, 1]).shows(BOTH, HUGE), True)
        self.assertIs(Within([False, 1]).shows(BOTH, HUGE), False)
        self.assertIs(Within([0, True]).shows(BOTH, HUGE), False)

    def test_a_field_of_another_kind_holds_of_nothing(self):
        for label, value in no_lists():
            for field in ("order", "apart", "bench", "length"):
                if not isinstance(value, int) or field in ("order", "apart"):
                    with self.subTest(field=field, value=label):
                        answer = Soonest([2, 0, 1], 1, [0, 2], 6)
                        setattr(answer, field, value)
                        self.assertIs(answer.shows(THREE), False)

    def test_just_true_or_false_whatever_the_fields(self):
        numbers, counts = hostile_fields()
        times = [-HUGE, -1, 0, 12, 13, HUGE]
        for things in ([], THREE, BOTH, [(HUGE, 0, HUGE)]):
            given = deepcopy(things)
            for told in counts:
                within = Within(told)
                for time in times:
                    self.assertIs(within.shows(given, time), within_holds(within, things, time))
                self.assertTrue(within.order == told)
            for bench, told, length in product(numbers, counts, numbers):
                never = Never(bench, told, length)
                for time in times:
                    self.assertIs(never.shows(given, time), never_holds(never, things, time))
                self.assertTrue([never.bench, never.apart, never.length] == [bench, told, length])
            self.assertTrue(given == things)

    def test_just_true_or_false_of_soonest(self):
        numbers, counts = hostile_fields()
        for things in ([], THREE, BOTH, [(HUGE, 0, HUGE)]):
            given = deepcopy(things)
            for order, apart in product(counts, repeat=2):
                for bench, length in product(numbers, repeat=2):
                    answer = Soonest(order, bench, apart, length)
                    self.assertIs(answer.shows(given), soonest_holds(answer, things))
                    self.assertTrue([answer.order, answer.bench, answer.apart, answer.length]
                                    == [order, bench, apart, length])
            self.assertTrue(given == things)

    def test_mixed_fields(self):
        for seed in range(3000):
            parts = mixed_numbers(9, 5, seed)
            things = mixed_things(parts[0], 4, seed + 1)
            order = [part - 1 for part in parts[1:1 + parts[0]]]
            apart = [part - 1 for part in parts[5:5 + parts[0] - 1]]
            answer = Soonest(order, parts[7] - 1, apart, parts[8] - 1)
            self.assertIs(answer.shows(things), soonest_holds(answer, things))
            never = Never(1 + seed % 2, sorted(apart), parts[8])
            self.assertIs(never.shows(things, 3), never_holds(never, things, 3))
            within = Within(order)
            self.assertIs(within.shows(things, 9), within_holds(within, things, 9))


if __name__ == "__main__":
    unittest.main()

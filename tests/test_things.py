"""When things begin and when an order is done: point 2, and what point 1 says of both."""

import unittest
from copy import deepcopy
from itertools import permutations, product

from benchpair.things import done, starts
from tests.oracles import closed_form, turned, without
from tests.samples import mixed_order, mixed_things

THREE = [(3, 2, 4), (1, 5, 2), (2, 0, 3)]
FIVE = [(2, 1, 3), (4, 0, 0), (0, 6, 1), (1, 1, 5), (3, 2, 2)]
LARGE = 10 ** 99

# Worked out by hand: things, order, when each begins by its count, when the order is done.
BY_HAND = [
    ([(3, 2, 4)], [0], [(0, 5)], 9),
    ([(0, 0, 0)], [0], [(0, 0)], 0),
    ([(0, 2, 4)], [0], [(0, 2)], 6),
    ([(3, 0, 4)], [0], [(0, 3)], 7),
    ([(3, 2, 0)], [0], [(0, 5)], 5),
    ([(5, 0, 0)], [0], [(0, 5)], 5),
    ([(0, 5, 0)], [0], [(0, 5)], 5),
    ([(0, 0, 5)], [0], [(0, 0)], 5),
    ([(3, 2, 4), (1, 1, 1)], [0, 1], [(0, 5), (3, 9)], 10),
    ([(3, 2, 4), (1, 1, 1)], [1, 0], [(1, 6), (0, 2)], 10),
    ([(1, 0, 1), (1, 9, 1)], [0, 1], [(0, 1), (1, 11)], 12),
    ([(1, 0, 1), (1, 9, 1)], [1, 0], [(1, 11), (0, 10)], 12),
    ([(2, 3, 0), (0, 0, 0)], [0, 1], [(0, 5), (2, 5)], 5),
    ([(2, 3, 0), (0, 0, 0)], [1, 0], [(0, 5), (0, 0)], 5),
    ([(0, 0, 7), (2, 1, 1)], [0, 1], [(0, 0), (0, 7)], 8),
    ([(0, 0, 7), (2, 1, 1)], [1, 0], [(2, 4), (0, 3)], 11),
    ([(2, 3, 4), (2, 3, 4)], [0, 1], [(0, 5), (2, 9)], 13),
    ([(2, 3, 4), (2, 3, 4)], [1, 0], [(2, 9), (0, 5)], 13),
    (THREE, [0, 1, 2], [(0, 5), (3, 9), (4, 11)], 14),
    (THREE, [0, 2, 1], [(0, 5), (5, 12), (3, 9)], 14),
    (THREE, [1, 0, 2], [(1, 8), (0, 6), (4, 12)], 15),
    (THREE, [1, 2, 0], [(3, 11), (0, 6), (1, 8)], 15),
    (THREE, [2, 0, 1], [(2, 7), (5, 11), (0, 2)], 13),
    (THREE, [2, 1, 0], [(3, 10), (2, 8), (0, 2)], 14),
    (FIVE, [0, 1, 2, 3, 4], [(0, 3), (2, 6), (6, 12), (6, 13), (7, 18)], 20),
    (FIVE, [4, 3, 2, 1, 0], [(8, 13), (4, 13), (4, 12), (3, 7), (0, 5)], 16),
    (FIVE, [3, 1, 4, 0, 2], [(8, 12), (1, 7), (10, 16), (0, 2), (5, 10)], 17),
    ([(0, 0, 0)] * 4, [2, 0, 3, 1], [(0, 0)] * 4, 0),
    (
        [(LARGE, 2 * LARGE, 3 * LARGE), (4, 5, LARGE)], [0, 1],
        [(0, 3 * LARGE), (LARGE, 6 * LARGE)], 7 * LARGE,
    ),
    (
        [(LARGE, 2 * LARGE, 3 * LARGE), (4, 5, LARGE)], [1, 0],
        [(4, 3 * LARGE + 4), (0, 9)], 6 * LARGE + 4,
    ),
    (
        [(LARGE + 1, LARGE + 2, LARGE + 3), (1, 0, 1)], [0, 1],
        [(0, 2 * LARGE + 3), (LARGE + 1, 3 * LARGE + 6)], 3 * LARGE + 7,
    ),
]


def small_cases():
    """Things and orders: few things with all small lengths, then more with mixed lengths."""
    triples = list(product(range(3), repeat=3))
    for many in (0, 1, 2):
        for things in product(triples, repeat=many):
            for order in permutations(range(many)):
                yield list(things), list(order)
    for things in product(list(product((0, 1, 4), (0, 3), (0, 2))), repeat=3):
        for order in permutations(range(3)):
            yield list(things), list(order)
    for seed in range(200):
        many = 4 + seed % 6
        yield mixed_things(many, 10, seed), mixed_order(many, seed + 1000)


class TimesTest(unittest.TestCase):
    def test_worked_out_by_hand(self):
        for things, order, begins, end in BY_HAND:
            with self.subTest(things=things, order=order):
                self.assertEqual(starts(things, order), begins)
                self.assertEqual(done(things, order), end)

    def test_nothing_is_done_at_0(self):
        self.assertEqual(done([], []), 0)
        self.assertEqual(starts([], []), [])

    def test_told_by_name(self):
        self.assertEqual(done(order=[2, 0, 1], things=THREE), 13)
        self.assertEqual(starts(order=[2, 0, 1], things=THREE), [(2, 7), (5, 11), (0, 2)])

    def test_small_things_and_all_orders(self):
        for things, order in small_cases():
            told = (starts(things, order), done(things, order))
            self.assertEqual(told, closed_form(things, order), (things, order))

    def test_large_lengths_as_small_ones(self):
        for seed in range(20):
            things = mixed_things(7, 10, seed)
            order = mixed_order(7, seed)
            larger = [tuple(part * LARGE for part in thing) for thing in things]
            begins = [(one * LARGE, two * LARGE) for one, two in starts(things, order)]
            self.assertEqual(starts(larger, order), begins)
            self.assertEqual(done(larger, order), done(things, order) * LARGE)

    def test_many_things(self):
        many = 20000
        things = [(1, 0, 2)] * many
        upward = list(range(many))
        begins = [(at, 2 * at + 1) for at in range(many)]
        # Asked as truths: unittest would take hours to show how two such lists differ.
        self.assertEqual(done(things, upward), 2 * many + 1)
        self.assertTrue(starts(things, upward) == begins)
        self.assertEqual(done(things, upward[::-1]), 2 * many + 1)
        self.assertTrue(starts(things, upward[::-1]) == begins[::-1])


class KindsTest(unittest.TestCase):
    def assert_whole(self, value):
        self.assertIs(type(value), int)

    def test_done_tells_a_whole_number(self):
        for things, order, _, _ in BY_HAND + [([], [], [], 0)]:
            with self.subTest(things=things, order=order):
                self.assert_whole(done(things, order))

    def test_starts_tells_a_list_of_pairs(self):
        for things, order, _, _ in BY_HAND + [([], [], [], 0)]:
            with self.subTest(things=things, order=order):
                told = starts(things, order)
                self.assertIs(type(told), list)
                self.assertEqual(len(told), len(things))
                for pair in told:
                    self.assertIs(type(pair), tuple)
                    self.assertEqual(len(pair), 2)
                    self.assert_whole(pair[0])
                    self.assert_whole(pair[1])

    def test_starts_goes_by_count_and_not_by_place(self):
        things = [(1, 0, 0), (2, 0, 0), (4, 0, 0)]
        self.assertEqual(starts(things, [2, 0, 1]), [(4, 5), (5, 7), (0, 4)])
        self.assertEqual(starts(things, [1, 2, 0]), [(6, 7), (0, 2), (2, 6)])


class TurnedTest(unittest.TestCase):
    def test_benches_exchanged_and_order_turned_about(self):
        for things, order in small_cases():
            end = done(turned(things), order[::-1])
            self.assertEqual(end, done(things, order), (things, order))

    def test_turned_large(self):
        for things, order, _, end in BY_HAND:
            with self.subTest(things=things, order=order):
                self.assertEqual(done(turned(things), order[::-1]), end)

    def test_a_thing_less_is_never_later(self):
        for things, order in small_cases():
            end = done(things, order)
            for left_out in range(len(things)):
                fewer, rest = without(things, order, left_out)
                self.assertLessEqual(done(fewer, rest), end, (things, order, left_out))


class NothingKeptTest(unittest.TestCase):
    def test_what_was_handed_in_is_the_same_afterwards(self):
        for ask in (done, starts):
            for things, order, _, _ in BY_HAND:
                with self.subTest(ask=ask.__name__, things=things, order=order):
                    given_things, given_order = deepcopy(things), deepcopy(order)
                    ask(given_things, given_order)
                    self.assertEqual(given_things, things)
                    self.assertEqual(given_order, order)

    def test_what_was_told_may_be_changed(self):
        for things, order, begins, end in BY_HAND:
            with self.subTest(things=things, order=order):
                told = starts(things, order)
                told[0] = None
                told.append((1, 1))
                again = starts(things, order)
                self.assertIsNot(again, told)
                self.assertEqual(again, begins)
                again.clear()
                self.assertEqual(starts(things, order), begins)
                self.assertEqual(done(things, order), end)

    def test_what_was_told_of_nothing_may_be_changed(self):
        things, order = [], []
        told = starts(things, order)
        self.assertIsNot(told, things)
        self.assertIsNot(told, order)
        told.append((1, 1))
        self.assertEqual((things, order), ([], []))
        self.assertEqual(starts(things, order), [])
        self.assertEqual(starts([], []), [])
        self.assertEqual(done([], []), 0)

    def test_what_was_told_stays_when_what_was_handed_in_is_changed(self):
        things, order = list(THREE), [2, 0, 1]
        told = starts(things, order)
        things[0] = (0, 0, 0)
        order.reverse()
        self.assertEqual(told, [(2, 7), (5, 11), (0, 2)])

    def test_the_same_lists_with_other_contents_are_asked_anew(self):
        things, order = list(THREE), [0, 1, 2]
        self.assertEqual((starts(things, order), done(things, order)),
                         ([(0, 5), (3, 9), (4, 11)], 14))
        order.reverse()
        self.assertEqual((starts(things, order), done(things, order)),
                         ([(3, 10), (2, 8), (0, 2)], 14))
        things[1] = (0, 0, 9)
        self.assertEqual((starts(things, order), done(things, order)),
                         ([(2, 14), (2, 5), (0, 2)], 18))
        things.pop()
        order.remove(2)
        self.assertEqual((starts(things, order), done(things, order)),
                         ([(0, 9), (0, 0)], 13))


if __name__ == "__main__":
    unittest.main()

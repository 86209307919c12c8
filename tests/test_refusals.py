"""What is refused as things and as an order: point 1 and the interface of benchpair.things."""

import unittest
from copy import deepcopy
from itertools import permutations, product

from benchpair.errors import BadOrder, BadText, BadThings, BadTime, BenchError
from benchpair.things import done, starts
from tests.samples import HUGE, no_counts, no_lengths, no_lists, no_things, replaced

REFUSALS = (BadThings, BadOrder, BadTime, BadText)
GOOD = [(3, 2, 4), (1, 5, 2), (2, 0, 3), (0, 0, 0), (4, 1, 1)]
THREE = [(0, 0, 0), (1, 2, 3), (5, 0, 2)]


class RefusalsTest(unittest.TestCase):
    def assert_refused(self, kind, things, order):
        """Both functions refuse with just this class, which is none of the other refusals."""
        for ask in (done, starts):
            with self.assertRaises(kind) as caught:
                ask(things, order)
            self.assertIs(type(caught.exception), kind)
            self.assertIsInstance(caught.exception, BenchError)
            self.assertIsInstance(caught.exception, ValueError)
            others = [other for other in REFUSALS if isinstance(caught.exception, other)]
            self.assertEqual(others, [kind])


class BadThingsTest(RefusalsTest):
    def test_no_list(self):
        for label, value in no_lists():
            for order in ([], [0], [0, 1, 2]):
                with self.subTest(things=label, order=order):
                    self.assert_refused(BadThings, value, order)

    def test_one_thing_is_no_triple(self):
        for label, value in no_things():
            for place in range(len(GOOD)):
                with self.subTest(thing=label, place=place):
                    things = replaced(GOOD, place, value)
                    self.assert_refused(BadThings, things, [0, 1, 2, 3, 4])
            with self.subTest(thing=label, place="alone"):
                self.assert_refused(BadThings, [value], [0])

    def test_one_length_is_none(self):
        for label, value in no_lengths():
            for place in range(len(GOOD)):
                for part in range(3):
                    with self.subTest(length=label, place=place, part=part):
                        thing = replaced(GOOD[place], part, value)
                        things = replaced(GOOD, place, thing)
                        self.assert_refused(BadThings, things, [4, 3, 2, 1, 0])

    def test_one_length_of_one_thing_is_none(self):
        for label, value in no_lengths():
            for part in range(3):
                with self.subTest(length=label, part=part):
                    self.assert_refused(BadThings, [replaced((1, 1, 1), part, value)], [0])

    def test_things_that_hold_themselves(self):
        things = [(1, 2, 3)]
        things.append(things)
        self.assert_refused(BadThings, things, [0, 1])

    def test_a_length_of_0_is_taken(self):
        for things in product(list(product((0, 1), repeat=3)), repeat=2):
            self.assertEqual(len(starts(list(things), [0, 1])), 2)
            self.assertGreaterEqual(done(list(things), [0, 1]), 0)


class BadOrderTest(RefusalsTest):
    def test_no_list(self):
        for label, value in no_lists():
            for things in ([], GOOD[:1], THREE):
                with self.subTest(order=label, many=len(things)):
                    self.assert_refused(BadOrder, things, value)

    def test_one_count_is_none(self):
        for label, value in no_counts(3):
            for order in permutations(range(3)):
                for place in range(3):
                    with self.subTest(count=label, order=order, place=place):
                        wrong = replaced(list(order), place, value)
                        self.assert_refused(BadOrder, THREE, wrong)

    def test_one_count_of_one_thing_is_none(self):
        for label, value in no_counts(1):
            with self.subTest(count=label):
                self.assert_refused(BadOrder, [(1, 2, 3)], [value])

    def test_true_and_false_are_no_counts(self):
        self.assert_refused(BadOrder, [(1, 2, 3)], [False])
        self.assert_refused(BadOrder, [(1, 2, 3)] * 2, [0, True])
        self.assert_refused(BadOrder, [(1, 2, 3)] * 2, [True, 0])
        self.assert_refused(BadOrder, [(1, 2, 3)] * 2, [False, 1])
        self.assert_refused(BadOrder, [(1, 2, 3)] * 2, [False, True])

    def test_just_the_orders_are_taken(self):
        taken = [list(order) for order in permutations(range(3))]
        for many in range(5):
            for counts in product(range(-3, 5), repeat=many):
                order = list(counts)
                if order in taken:
                    self.assertEqual(len(starts(THREE, order)), 3)
                    self.assertGreaterEqual(done(THREE, order), 0)
                else:
                    self.assert_refused(BadOrder, THREE, order)

    def test_too_short_and_too_long(self):
        for order in ([], [0], [2], [0, 1], [2, 0], [1, 2]):
            with self.subTest(order=order):
                self.assert_refused(BadOrder, THREE, order)
        for order in ([0, 1, 2, 3], [0, 1, 2, 0], [2, 1, 0, 2], [0, 1, 2, None], [0, 1, 2] * 2):
            with self.subTest(order=order):
                self.assert_refused(BadOrder, THREE, order)

    def test_an_order_that_holds_itself(self):
        order = [0, 1]
        order.append(order)
        self.assert_refused(BadOrder, THREE, order)

    def test_no_things_have_but_one_order(self):
        for order in ([0], [1], [-1], [None], [False], [True], [[]], [()], [""], [0, 1], [HUGE]):
            with self.subTest(length=len(order)):
                self.assert_refused(BadOrder, [], order)
        self.assertEqual(done([], []), 0)
        self.assertEqual(starts([], []), [])

    def test_wrong_counts_among_many(self):
        many = 1000
        things = [(1, 1, 1)] * many
        upward = list(range(many))
        for place in (0, many // 2, many - 1):
            for value in (-1, many, upward[place - 1], True, None):
                with self.subTest(place=place, value=value):
                    self.assert_refused(BadOrder, things, replaced(upward, place, value))


class BothTest(RefusalsTest):
    def test_bad_things_and_a_bad_order_are_bad_things(self):
        bad_orders = [value for _, value in no_lists()]
        bad_orders += [[], [0], [0, 0, 0], [0, 1, True], [0, 1, 3], [-1, 0, 1]]
        bad_orders += [[0, 1, 2, 3], [None] * 3]
        bad_things = [None, (), "things", 7, True, [None] * 3, [(1, 2)] * 3]
        bad_things += [[(1, 2, 3), (1, 2, 3), (1, 2, -1)], [(1, 2, 3), (1, 2, 3), (1, 2, True)]]
        bad_things += [[(1, 2, 3), (1, 2, 3), [1, 2, 3]], [(1, 2, 3, 4), (1, 2, 3), (1, 2, 3)]]
        for things in bad_things:
            for at, order in enumerate(bad_orders):
                with self.subTest(things=things, order=at):
                    self.assert_refused(BadThings, things, order)

    def test_each_bad_thing_beside_a_bad_order(self):
        for label, value in no_lists():
            with self.subTest(things=label):
                self.assert_refused(BadThings, value, None)
        for label, value in no_things():
            with self.subTest(thing=label):
                self.assert_refused(BadThings, [(1, 2, 3), value], [0, 0])
        for label, value in no_lengths():
            with self.subTest(length=label):
                self.assert_refused(BadThings, [(1, 2, 3), (1, 2, value)], [0, 2])


class SameAfterwardsTest(RefusalsTest):
    def test_what_was_refused_is_the_same_afterwards(self):
        cases = [
            (BadThings, [(1, 2, 3), [1, 2, 3]], [1, 0]),
            (BadThings, [(1, 2, 3), (1, 2, -3)], [1, 0]),
            (BadThings, {0: (1, 2, 3)}, [0]),
            (BadOrder, [(1, 2, 3), (4, 5, 6)], [1, 1]),
            (BadOrder, [(1, 2, 3), (4, 5, 6)], [1, True]),
            (BadOrder, [(1, 2, 3), (4, 5, 6)], {1: 0, 0: 1}),
        ]
        for kind, things, order in cases:
            with self.subTest(things=things, order=order):
                given_things, given_order = deepcopy(things), deepcopy(order)
                self.assert_refused(kind, given_things, given_order)
                self.assertEqual(repr((given_things, given_order)), repr((things, order)))

    def test_a_refusal_leaves_nothing_behind(self):
        things = [(3, 2, 4), (1, 1, 1)]
        self.assert_refused(BadOrder, things, [1, 1])
        self.assert_refused(BadThings, [(3, 2, 4), (1, 1)], [1, 0])
        self.assertEqual(starts(things, [1, 0]), [(1, 6), (0, 2)])
        self.assertEqual(done(things, [1, 0]), 10)


if __name__ == "__main__":
    unittest.main()

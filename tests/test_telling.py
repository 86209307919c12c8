"""The soonest order and what is told of a time: points 4 and 5, and what point 1 says of both."""

import unittest
from copy import deepcopy
from itertools import product

from benchpair.answers import Answer, Never, Soonest, Within
from benchpair.errors import BadText, BadThings, BadTime, BadOrder, BenchError
from benchpair.telling import soonest, within
from benchpair.things import done
from tests.oracles import (
    bar_holds, bar_worth, end_by, never_holds, order_holds, soonest_end, soonest_holds, turned,
    within_holds,
)
from tests.samples import (
    HUGE, bad_things, mixed_order, mixed_things, no_times, replaced, shaped_things,
)

REFUSALS = (BadThings, BadOrder, BadTime, BadText)
SIXTY = 10 ** 60 - 1
HUNDRED = 10 ** 99

# Worked out by hand: things, and when the soonest order of them is done.
BY_HAND = [
    ([], 0),
    ([(0, 0, 0)], 0),
    ([(3, 2, 4)], 9),
    ([(0, 5, 0)], 5),
    ([(5, 0, 0)], 5),
    ([(0, 0, 5)], 5),
    ([(3, 2, 4), (1, 1, 1)], 10),
    ([(2, 3, 4), (2, 3, 4)], 13),
    ([(0, 0, 7), (2, 1, 1)], 8),
    ([(2, 1, 1), (0, 0, 7)], 8),
    ([(7, 0, 0), (1, 1, 2)], 8),
    ([(1, 9, 1), (1, 0, 1)], 12),
    ([(3, 2, 4), (1, 5, 2), (2, 0, 3)], 13),
    ([(5, 1, 2), (4, 0, 1), (1, 3, 4)], 11),
    ([(1, 0, 2), (1, 0, 2), (1, 0, 2)], 7),
    ([(2, 0, 1), (2, 0, 1), (2, 0, 1)], 7),
    ([(4, 0, 5), (4, 0, 1), (3, 0, 2), (1, 0, 4)], 13),
    ([(0, 0, 0)] * 6, 0),
    ([(SIXTY, SIXTY, SIXTY)], 3 * SIXTY),
    ([(1, 0, HUNDRED), (HUNDRED, 0, 1)], HUNDRED + 2),
    ([(HUNDRED, 0, 1), (1, HUNDRED, 1)], HUNDRED + 3),
]


def some_things():
    """Things of every shape, up to six of them, of which all orders can be gone through."""
    triples = list(product(range(3), repeat=3))
    for many in (0, 1, 2):
        for things in product(triples, repeat=many):
            yield list(things)
    for things in product(list(product((0, 1, 4), (0, 3), (0, 2))), repeat=3):
        yield list(things)
    for seed in range(14):
        for _, things in shaped_things(1 + seed % 6, (2, 4, 10, 100)[seed % 4], seed):
            yield things


def some_large_things():
    """Things with lengths of sixty and of a hundred figures, up to five of them."""
    for seed in range(12):
        for _, things in shaped_things(2 + seed % 4, 10, seed):
            large = (SIXTY, HUNDRED)[seed % 2]
            yield [tuple(part * large + at % 3 for at, part in enumerate(thing, seed))
                   for thing in things]


def many_things():
    """Label and two hundred things of each shape."""
    for seed, below in enumerate((3, 100, 10 ** 6)):
        yield from shaped_things(200, below, seed)


class AnswersTest(unittest.TestCase):
    def assert_counts(self, told):
        self.assertIs(type(told), list)
        self.assertTrue(all(type(count) is int for count in told))

    def assert_order(self, things, order):
        self.assert_counts(order)
        self.assertTrue(order_holds(things, order))

    def assert_bar(self, things, answer):
        """The answer's bar is one, and of just the kinds of values that point 3 tells."""
        self.assertIs(type(answer.bench), int)
        self.assert_counts(answer.apart)
        self.assertIs(type(answer.length), int)
        self.assertTrue(bar_holds(things, answer.bench, answer.apart, answer.length))
        return bar_worth(things, answer.bench, answer.apart, answer.length)

    def assert_soonest(self, things):
        """What is told is as point 4 tells, by the oracle and by itself; tell when it is done."""
        answer = soonest(things)
        self.assertIs(type(answer), Soonest)
        self.assertIsInstance(answer, Answer)
        self.assert_order(things, answer.order)
        end = end_by(things, answer.order)
        self.assertEqual(self.assert_bar(things, answer), end)
        self.assertEqual(done(things, answer.order), end)
        self.assertIs(answer.shows(things), True)
        return end

    def assert_within(self, things, time, end):
        """What is told of the time is as point 5 tells, if the soonest order is done at the end."""
        answer = within(things, time)
        self.assertIsInstance(answer, Answer)
        self.assertNotIsInstance(answer, Soonest)
        if end <= time:
            self.assertIs(type(answer), Within)
            self.assert_order(things, answer.order)
            self.assertLessEqual(end_by(things, answer.order), time)
        else:
            self.assertIs(type(answer), Never)
            self.assertGreater(self.assert_bar(things, answer), time)
        self.assertIs(answer.shows(things, time), True)
        return answer


class SoonestTest(AnswersTest):
    def test_by_hand(self):
        for things, end in BY_HAND:
            with self.subTest(things=things):
                self.assertEqual(self.assert_soonest(things), end)
        self.assertIs(soonest(things=[(1, 2, 3)]).shows([(1, 2, 3)]), True)

    def test_no_order_is_done_sooner(self):
        for things in some_things():
            self.assertEqual(self.assert_soonest(things), soonest_end(things), things)

    def test_large_lengths(self):
        for things in some_large_things():
            self.assertEqual(self.assert_soonest(things), soonest_end(things))

    def test_two_hundred_things(self):
        for label, things in many_things():
            with self.subTest(label=label):
                # The bar's worth is what no order can be done before.
                end = self.assert_soonest(things)
                for seed in range(5):
                    self.assertLessEqual(end, end_by(things, mixed_order(200, seed)))

    def test_twenty_thousand_things(self):
        things = mixed_things(20000, 10 ** 5, 3)
        answer = soonest(things)
        self.assertIs(answer.shows(things), True)
        end = end_by(things, answer.order)
        self.assertIs(type(within(things, end)), Within)
        self.assertIs(type(within(things, end - 1)), Never)

    def test_benches_exchanged(self):
        for things in some_things():
            end = end_by(things, soonest(things).order)
            self.assertEqual(self.assert_soonest(turned(things)), end, things)
        for label, things in many_things():
            with self.subTest(label=label):
                end = end_by(things, soonest(things).order)
                self.assertEqual(self.assert_soonest(turned(things)), end)


class ShowsTest(AnswersTest):
    """What `shows` tells of an answer that was told, and of one changed or asked of others."""

    def other_things(self, things):
        """Things beside the ones that were asked of."""
        yield turned(things)
        yield things[1:]
        yield things[:-1]
        yield things[::-1]
        yield things + [(1, 1, 1)]
        yield things + [(0, 0, 0)]
        for count in range(len(things)):
            for part in range(3):
                longer = replaced(things[count], part, things[count][part] + 1)
                yield replaced(things, count, longer)

    def test_soonest_of_other_things(self):
        for things in some_things():
            answer = soonest(things)
            for others in self.other_things(things):
                self.assertIs(answer.shows(others), soonest_holds(answer, others))

    def test_within_and_never_of_other_things_and_times(self):
        for things in some_things():
            end = end_by(things, soonest(things).order)
            for time in (end - 1, end, end + 1):
                answer = within(things, time)
                holds = within_holds if time >= end else never_holds
                for asked in (time - 1, time, time + 1):
                    self.assertIs(answer.shows(things, asked), holds(answer, things, asked))
                    for others in self.other_things(things):
                        self.assertIs(answer.shows(others, asked), holds(answer, others, asked))

    def test_a_worth_one_more_or_less(self):
        for things in some_things():
            answer = soonest(things)
            length = answer.length
            for answer.length in (length - 1, length + 1):
                self.assertIs(answer.shows(things), False)
            answer.length = length
            self.assertIs(answer.shows(things), True)

    def test_two_counts_exchanged(self):
        for things in some_things():
            answer = soonest(things)
            end = end_by(things, answer.order)
            for one, other in product(range(len(things)), repeat=2):
                changed = soonest(things)
                order = changed.order
                order[one], order[other] = order[other], order[one]
                self.assertIs(changed.shows(things), end_by(things, order) == end)

    def test_counts_that_are_none(self):
        for things in some_things():
            for place in range(len(things)):
                answer = soonest(things)
                order = answer.order
                others = [order[:place] + order[place + 1:], order + [order[place]]]
                for count in (-1, -len(things), len(things), order[place] - len(things)):
                    others.append(replaced(order, place, count))
                if len(things) > 1:
                    others.append(replaced(order, place, order[place - 1]))
                for answer.order in others:
                    self.assertIs(answer.shows(things), False, (things, answer.order))


class WithinTest(AnswersTest):
    def test_by_hand(self):
        for things, end in BY_HAND:
            for time in (end, end - 1, end + 1, 0, -1, -HUGE, HUGE):
                self.assert_within(things, time, end)
        self.assertIs(type(within(things=[(1, 2, 3)], time=6)), Within)
        self.assertIs(type(within(time=5, things=[(1, 2, 3)])), Never)

    def test_of_no_things(self):
        for time in (0, 1, HUGE):
            answer = within([], time)
            self.assertIs(type(answer), Within)
            self.assertEqual(answer.order, [])
        for time in (-1, -2, -HUGE):
            self.assertIs(type(within([], time)), Never)

    def test_just_where_an_order_is_done_by_then(self):
        for things in some_things():
            end = soonest_end(things)
            for time in (end, end - 1, end + 1, 0, -1, end // 2, 2 * end):
                self.assert_within(things, time, end)

    def test_large_lengths(self):
        for things in some_large_things():
            end = soonest_end(things)
            for time in (end, end - 1, end + 1, 0, -1):
                self.assert_within(things, time, end)

    def test_two_hundred_things(self):
        for label, things in many_things():
            with self.subTest(label=label):
                end = self.assert_soonest(things)
                for time in (end, end - 1, end + 1, 0, -1):
                    self.assert_within(things, time, end)


class NothingKeptTest(AnswersTest):
    def test_what_was_handed_in_is_the_same_afterwards(self):
        for things, end in BY_HAND:
            given = deepcopy(things)
            told = [soonest(given), within(given, end), within(given, end - 1)]
            self.assertEqual(given, things)
            told[0].shows(given)
            told[1].shows(given, end)
            told[2].shows(given, end - 1)
            self.assertEqual(given, things)

    def test_what_was_told_may_be_changed(self):
        for things, end in BY_HAND:
            given = deepcopy(things)
            asks = (lambda: soonest(given), lambda: within(given, end),
                    lambda: within(given, end - 1))
            for ask in asks:
                fields = deepcopy(vars(ask()))
                told = ask()
                for name in ("order", "apart"):
                    if name in fields:
                        getattr(told, name).append(7)
                        getattr(told, name).reverse()
                told.bench = told.length = None
                self.assertEqual(given, things)
                self.assertEqual(vars(ask()), fields)

    def test_answers_share_no_list(self):
        for things, end in BY_HAND:
            kept = [things]
            for _ in range(2):
                one, two, three = soonest(things), within(things, end), within(things, end - 1)
                for told in (one.order, one.apart, two.order, three.apart):
                    self.assertFalse(any(told is other for other in kept))
                    kept.append(told)

    def test_what_was_told_stays_when_the_things_are_changed(self):
        things = [(3, 2, 4), (1, 5, 2), (2, 0, 3)]
        answer = soonest(things)
        before = deepcopy(vars(answer))
        things[0] = (0, 0, 0)
        things.append((9, 9, 9))
        self.assertEqual(vars(answer), before)
        self.assertIs(answer.shows(things), False)
        self.assertIs(soonest(things).shows(things), True)


class RefusedTest(AnswersTest):
    def assert_refused(self, kind, ask, *handed):
        with self.assertRaises(kind) as caught:
            ask(*handed)
        self.assertIs(type(caught.exception), kind)
        self.assertIsInstance(caught.exception, BenchError)
        others = [other for other in REFUSALS if isinstance(caught.exception, other)]
        self.assertEqual(others, [kind])

    def test_bad_things(self):
        for label, value in bad_things():
            with self.subTest(things=label):
                self.assert_refused(BadThings, soonest, value)
                for time in (0, -1, HUGE):
                    self.assert_refused(BadThings, within, value, time)

    def test_bad_times(self):
        for label, value in no_times():
            with self.subTest(time=label):
                for things in ([], [(0, 0, 0)], [(3, 2, 4), (1, 5, 2)]):
                    self.assert_refused(BadTime, within, things, value)

    def test_bad_things_and_a_bad_time(self):
        for label, value in no_times():
            with self.subTest(time=label):
                for things in (None, (), [None], [(1, 2)], [(1, 2, -3)], [(1, 2, True)]):
                    self.assert_refused(BadThings, within, things, value)
        for label, value in bad_things():
            with self.subTest(things=label):
                self.assert_refused(BadThings, within, value, None)

    def test_a_refusal_changes_and_leaves_nothing(self):
        things = [(3, 2, 4), (1, 5, -2)]
        self.assert_refused(BadThings, soonest, things)
        self.assert_refused(BadThings, within, things, 7)
        self.assertEqual(things, [(3, 2, 4), (1, 5, -2)])
        good = [(3, 2, 4), (1, 1, 1)]
        time = [10]
        self.assert_refused(BadTime, within, good, time)
        self.assertEqual((good, time), ([(3, 2, 4), (1, 1, 1)], [10]))
        self.assertEqual(self.assert_soonest(good), 10)


if __name__ == "__main__":
    unittest.main()

"""Points [1], [9] and [10]: heaps joined by turns, and their purse."""

import itertools
import unittest

from heapmeld.errors import BadHeap, Empty, TooMany
from heapmeld.heaps import keys_of
from heapmeld.rows import heap_of
from heapmeld.turning import purse, turn_join, turn_take
from tests.helpers import (WRONG_HEAPS, all_ways, balanced, forms, keyed, leaf, led, left_chain, mixed, refuse,
                           refuse_each, right_chain, size, zigzag)

GREAT = 10 ** 400


def by_the_words(one, other):
    """Joined by turns with a list of what is on top at each step, without telling it by itself."""
    tops = []
    while one and other:
        if one[1] <= other[1]:
            tops.append(one)
            one = one[2]
        else:
            tops.append(other)
            one, other = other[2], one
    heap = one or other
    for old_left, key, old_right in reversed(tops):
        heap = (heap, key, old_left)
    return heap, len(tops)


def heavy_ways(heap):
    return [way for way in all_ways(heap) if size(led(heap, way)[2]) > size(led(heap, way)[0])]


def small_heaps(most):
    return [heap for many in range(most + 1) for form in forms(many)
            for heap in (form, keyed(form, range(many)), keyed(form, range(1, 2 * many, 2)))]


def great_heaps(many):
    return [heap_of(mixed(many)), heap_of(mixed(many)[::-1]), left_chain(range(many)), right_chain(range(many)),
            zigzag(range(many)), balanced(many), keyed(balanced(many), range(many)), right_chain([0] * many)]


class Joined(unittest.TestCase):
    def test_nothing_without_a_step(self):
        self.assertEqual(turn_join((), ()), ((), 0))
        for heap in (leaf(1), right_chain(range(40)), balanced(40), ((), 1, leaf(2))):
            self.assertEqual(turn_join((), heap), (heap, 0))
            self.assertEqual(turn_join(heap, ()), (heap, 0))

    def test_one_key_each(self):
        self.assertEqual(turn_join(leaf(1), leaf(2)), ((leaf(2), 1, ()), 1))
        self.assertEqual(turn_join(leaf(2), leaf(1)), ((leaf(2), 1, ()), 1))
        self.assertEqual(turn_join(leaf(-GREAT), leaf(GREAT)), ((leaf(GREAT), -GREAT, ()), 1))

    def test_the_old_left_side_becomes_the_right_one(self):
        self.assertEqual(turn_join((leaf(7), 1, leaf(9)), leaf(3)), (((leaf(9), 3, ()), 1, leaf(7)), 2))
        self.assertEqual(turn_join(leaf(3), (leaf(7), 1, leaf(9))), (((leaf(9), 3, ()), 1, leaf(7)), 2))

    def test_of_alike_tops_the_first_is_on_top(self):
        one = ((), 1, leaf(5))
        self.assertEqual(turn_join(one, leaf(1)), (((leaf(5), 1, ()), 1, ()), 2))
        self.assertEqual(turn_join(leaf(1), one), ((one, 1, ()), 1))

    def test_the_old_right_side_comes_first(self):
        one = ((), 1, ((), 3, leaf(9)))
        expected = (((leaf(9), 3, ()), 3, ()), 1, ()), 3
        self.assertEqual(turn_join(one, leaf(3)), expected)
        self.assertEqual(turn_join(leaf(3), one), expected)

    def test_chains(self):
        evens, odds = right_chain(range(0, 40, 2)), right_chain(range(1, 40, 2))
        self.assertEqual(turn_join(evens, odds), (left_chain(range(40)), 39))
        # The chain of greater keys stays as it is, below the other one.
        below = right_chain(range(20, 40))
        for key in range(19, -1, -1):
            below = (below, key, ())
        self.assertEqual(turn_join(right_chain(range(20)), right_chain(range(20, 40))), (below, 20))
        self.assertEqual(turn_join(left_chain(range(20)), left_chain(range(20, 40))),
                         ((left_chain(range(20, 40)), 0, left_chain(range(1, 20))), 1))

    def test_small_heaps_against_the_words(self):
        small = small_heaps(4)
        for one, other in itertools.product(small, small):
            self.assertEqual(turn_join(one, other), by_the_words(one, other))

    def test_forty_keys_against_the_words(self):
        for few in (1, 7, 20, 33, 39):
            for one, other in itertools.product(great_heaps(few), great_heaps(40 - few)):
                told = turn_join(one, other)
                self.assertIs(type(told), tuple)
                self.assertEqual(told, by_the_words(one, other))
                self.assertEqual(keys_of(told[0]), sorted(keys_of(one) + keys_of(other)))

    def test_a_heap_with_itself(self):
        for heap in great_heaps(20):
            self.assertEqual(turn_join(heap, heap), by_the_words(heap, heap))

    def test_refused_in_the_told_order(self):
        for right in ((), leaf(1), left_chain(range(40))):
            refuse_each(self, BadHeap, lambda heap: turn_join(heap, right), WRONG_HEAPS)
            refuse_each(self, BadHeap, lambda heap: turn_join(right, heap), WRONG_HEAPS)
        for few in range(1, 41):
            refuse(self, TooMany, turn_join, right_chain(range(few)), left_chain(range(41 - few)))
        refuse(self, TooMany, turn_join, balanced(40), balanced(40))


class Taken(unittest.TestCase):
    def test_the_sides_joined_the_left_one_first(self):
        self.assertEqual(turn_take(leaf(4)), (4, (), 0))
        self.assertEqual(turn_take((leaf(2), 1, ())), (1, leaf(2), 0))
        self.assertEqual(turn_take(((), 1, leaf(2))), (1, leaf(2), 0))
        self.assertEqual(turn_take((leaf(3), 1, leaf(2))), (1, (leaf(3), 2, ()), 1))
        left = ((), 2, leaf(7))
        self.assertEqual(turn_take((left, 1, leaf(2))), (1, ((leaf(7), 2, ()), 2, ()), 2))
        self.assertEqual(turn_take((leaf(2), 1, left)), (1, (left, 2, ()), 1))

    def test_until_nothing_is_left(self):
        for heap in small_heaps(5)[1:] + great_heaps(40):
            keys = keys_of(heap)
            while keys:
                told = turn_take(heap)
                self.assertIs(type(told), tuple)
                self.assertEqual(told, (keys.pop(0),) + by_the_words(heap[0], heap[2]))
                heap = told[1]
                self.assertEqual(keys_of(heap), keys)
            self.assertEqual(heap, ())

    def test_refused_in_the_told_order(self):
        refuse_each(self, BadHeap, turn_take, WRONG_HEAPS)
        refuse(self, Empty, turn_take, ())


class Purse(unittest.TestCase):
    def test_plain_heaps(self):
        self.assertEqual(purse(()), 0)
        self.assertEqual(purse(leaf(1)), 0)
        self.assertEqual(purse((leaf(1), 0, ())), 0)
        self.assertEqual(purse(((), 0, leaf(1))), 1)
        self.assertEqual(purse((leaf(1), 0, leaf(1))), 0)

    def test_keys_and_not_ranks_are_compared(self):
        self.assertEqual(purse((leaf(1), 0, left_chain(range(1, 9)))), 1)
        self.assertEqual(purse((left_chain(range(1, 9)), 0, balanced(3, 1))), 0)

    def test_chains(self):
        for many in range(1, 41):
            self.assertEqual(purse(left_chain(range(many))), 0)
            self.assertEqual(purse(right_chain(range(many))), many - 1)
        self.assertEqual(purse(zigzag(range(40))), len(heavy_ways(zigzag(range(40)))))

    def test_against_the_words(self):
        for heap in small_heaps(6) + great_heaps(40) + great_heaps(23):
            self.assertEqual(purse(heap), len(heavy_ways(heap)))

    def assert_paid(self, one, other):
        heap, steps = turn_join(one, other)
        figures = (size(one) + 1).bit_length() - 1 + (size(other) + 1).bit_length() - 1
        self.assertLessEqual(steps + purse(heap), purse(one) + purse(other) + 2 * figures)

    def test_steps_and_new_purse_are_paid_for(self):
        small = small_heaps(4)
        for one, other in itertools.product(small, small):
            self.assert_paid(one, other)
        for few in range(1, 40):
            for one, other in itertools.product(great_heaps(few), great_heaps(40 - few)):
                self.assert_paid(one, other)

    def test_refused(self):
        refuse_each(self, BadHeap, purse, WRONG_HEAPS)


if __name__ == "__main__":
    unittest.main()

"""Points [1], [5], [6] and [7]: ranks, heaps judged, leaned, joined, and taken from."""

import itertools
import unittest

from heapmeld.answers import Leaned, Leans, Slants
from heapmeld.errors import BadHeap, BadKey, Empty, NotLeaning, TooMany
from heapmeld.heaps import keys_of
from heapmeld.leaning import judged, lean_join, lean_of, lean_take, leaned, rank
from heapmeld.rows import heap_of
from tests import helpers
from tests.helpers import (WRONG_HEAPS, WRONG_KEYS, balanced, exchanged, forms, keyed, leaf, left_chain, led, mixed,
                           refuse, refuse_each, right_chain, slanting_ways, slants, zigzag)

GREAT = 10 ** 400
SLANTING = ((), 1, leaf(2))


def heaps(many):
    """A heap of each form of so many knots, and one with alike keys."""
    return [keyed(form, range(many)) for form in forms(many)] + forms(many)


def leaning_heaps(many):
    return [heap for heap in heaps(many) if not slanting_ways(heap)]


def mixed_heaps():
    """Greater heaps of no plain form, to 40 keys."""
    return [heap_of(mixed(many)) for many in range(41)] + [keyed(balanced(40), range(40)), zigzag(range(40))]


class Rank(unittest.TestCase):
    def test_of_nothing_and_of_one_key(self):
        self.assertEqual(rank(()), 0)
        for key in (0, 5, -GREAT):
            self.assertEqual(rank(leaf(key)), 1)

    def test_of_chains(self):
        for many in range(1, 41):
            for made in (left_chain, right_chain, zigzag):
                self.assertEqual(rank(made(range(many))), 1)

    def test_of_full_heaps(self):
        self.assertEqual([rank(helpers.shared(levels)) for levels in range(6)], [0, 1, 2, 3, 4, 5])
        self.assertEqual(rank(balanced(40)), 5)
        self.assertEqual(rank((balanced(15, 1), 0, balanced(14, 1))), 4)

    def test_the_lesser_rank_of_both_sides_counts(self):
        self.assertEqual(rank((balanced(7, 1), 0, ())), 1)
        self.assertEqual(rank(((), 0, balanced(7, 1))), 1)
        self.assertEqual(rank((balanced(7, 1), 0, leaf(1))), 2)
        self.assertEqual(rank((leaf(1), 0, balanced(7, 1))), 2)

    def test_against_the_words(self):
        for heap in [heap for many in range(8) for heap in heaps(many)] + mixed_heaps():
            self.assertEqual(rank(heap), helpers.rank(heap))

    def test_refused(self):
        refuse_each(self, BadHeap, rank, WRONG_HEAPS)


class Judged(unittest.TestCase):
    def test_one_of_two_things(self):
        for heap in [heap for many in range(8) for heap in heaps(many)] + mixed_heaps():
            told = judged(heap)
            if slanting_ways(heap):
                self.assertIs(type(told), Slants)
                self.assertTrue(slants(led(heap, told.way)))
            else:
                self.assertIs(type(told), Leans)
            self.assertIs(told.shows(heap), True)

    def test_plain_heaps(self):
        for heap in ((), leaf(1), left_chain(range(40)), balanced(40)):
            self.assertIs(type(judged(heap)), Leans)
        self.assertEqual(judged(SLANTING).way, [])
        self.assertEqual(judged((((), 1, leaf(2)), 0, leaf(1))).way, ["left"])
        self.assertEqual(judged((leaf(1), 0, ((), 1, leaf(2)))).way, ["right"])

    def test_a_knot_far_down(self):
        heap = SLANTING
        for key in range(0, -38, -1):
            heap = (heap, key, ())
        self.assertEqual(judged(heap).way, ["left"] * 38)

    def test_the_way_is_new_each_time(self):
        told = judged(SLANTING)
        told.way.append("right")
        self.assertEqual(judged(SLANTING).way, [])
        self.assertIs(told.shows(SLANTING), False)

    def test_refused(self):
        refuse_each(self, BadHeap, judged, WRONG_HEAPS)


class LeanedTold(unittest.TestCase):
    def assert_leaned(self, heap):
        told = leaned(heap)
        self.assertIs(type(told), Leaned)
        self.assertEqual(told.ways, slanting_ways(heap))
        self.assertEqual(told.heap, exchanged(heap, slanting_ways(heap)))
        self.assertEqual(slanting_ways(told.heap), [])
        self.assertIs(told.shows(heap), True)

    def test_leaning_heaps_stay_without_a_way(self):
        for heap in ((), leaf(4), left_chain(range(40)), balanced(40), (leaf(1), 0, leaf(1))):
            told = leaned(heap)
            self.assertEqual((told.heap, told.ways), (heap, []))
            self.assert_leaned(heap)

    def test_chains_to_the_right(self):
        for many in range(2, 41):
            told = leaned(right_chain(range(many)))
            self.assertEqual(told.heap, left_chain(range(many)))
            self.assertEqual(told.ways, [["right"] * deep for deep in range(many - 1)])

    def test_several_knots_some_under_others(self):
        heap = (((), 1, leaf(2)), 0, ((((), 3, leaf(4)), 2, balanced(3, 5)), 1, balanced(7, 3)))
        self.assert_leaned(heap)
        self.assertEqual(leaned(heap).ways, [[], ["left"], ["right"], ["right", "left"], ["right", "left", "left"]])

    def test_ways_in_the_order_of_lists(self):
        heap = (((), 1, ((), 2, leaf(3))), 0, (leaf(2), 1, (leaf(9), 2, leaf(9))))
        self.assertEqual(leaned(heap).ways, [[], ["left"], ["left", "right"], ["right"]])
        heap = (balanced(31, 1), 0, (((), 2, leaf(3)), 1, ((), 2, leaf(3))))
        self.assertEqual(leaned(heap).ways, [["right", "left"], ["right", "right"]])

    def test_all_small_heaps_and_greater_ones(self):
        for heap in [heap for many in range(8) for heap in heaps(many)] + mixed_heaps():
            self.assert_leaned(heap)

    def test_no_fewer_exchanges_make_it_lean(self):
        for heap in heaps(5):
            fewest = min(len(ways) for many in range(6)
                         for ways in itertools.combinations(helpers.all_ways(heap), many)
                         if not slanting_ways(exchanged(heap, list(ways))))
            self.assertEqual(len(leaned(heap).ways), fewest)

    def test_lists_are_new_each_time(self):
        heap = right_chain(range(4))
        told = leaned(heap)
        told.ways[0].append("left")
        told.ways[2].clear()
        told.ways.pop()
        self.assertEqual(leaned(heap).ways, [[], ["right"], ["right", "right"]])
        self.assertEqual(leaned(()).ways, [])
        leaned(()).ways.append([])
        self.assertEqual(leaned(()).ways, [])

    def test_refused(self):
        refuse_each(self, BadHeap, leaned, WRONG_HEAPS)


class Joined(unittest.TestCase):
    def assert_joined(self, one, other):
        told = lean_join(one, other)
        self.assertEqual(keys_of(told), sorted(keys_of(one) + keys_of(other)))
        self.assertEqual(slanting_ways(told), [])

    def test_nothing_with_a_heap_either_way(self):
        self.assertEqual(lean_join((), ()), ())
        for heap in (leaf(1), left_chain(range(40)), balanced(40), lean_of(mixed(40))):
            self.assert_joined((), heap)
            self.assert_joined(heap, ())

    def test_all_small_leaning_heaps(self):
        small = [heap for many in range(5) for heap in leaning_heaps(many)]
        for one, other in itertools.product(small, small):
            self.assert_joined(one, other)

    def test_a_heap_with_itself(self):
        for heap in (leaf(3), left_chain(range(20)), balanced(20), lean_of(mixed(20)), left_chain([7] * 20)):
            self.assert_joined(heap, heap)

    def test_alike_keys(self):
        self.assert_joined(left_chain([5] * 20), balanced(1, 5))
        self.assert_joined(lean_of([5] * 20), lean_of([5] * 20))
        self.assert_joined(lean_of([5] * 13), left_chain([5] * 27))

    def test_keys_between_each_other(self):
        self.assert_joined(lean_of(list(range(0, 40, 2))), lean_of(list(range(1, 40, 2))))
        self.assert_joined(balanced(20), balanced(20, 2))
        self.assert_joined(left_chain(range(20)), balanced(20, 3))
        self.assert_joined(lean_of([GREAT, -GREAT]), lean_of([GREAT + 1, -GREAT - 1]))

    def test_of_forty_keys_shared_out_in_all_ways(self):
        for few in range(41):
            self.assert_joined(lean_of(mixed(40)[:few]), lean_of(mixed(40)[few:]))
            self.assert_joined(left_chain(range(few)), left_chain(range(40 - few)))

    def test_what_is_handed_in_stays_as_it_was(self):
        one, other = balanced(20), left_chain(range(20))
        lean_join(one, other)
        self.assertEqual((one, other), (balanced(20), left_chain(range(20))))


class JoinedRefused(unittest.TestCase):
    def test_no_heap_on_either_side(self):
        for right in ((), leaf(1), left_chain(range(40)), SLANTING, right_chain(range(40))):
            refuse_each(self, BadHeap, lambda heap: lean_join(heap, right), WRONG_HEAPS)
            refuse_each(self, BadHeap, lambda heap: lean_join(right, heap), WRONG_HEAPS)
        refuse(self, BadHeap, lean_join, None, None)

    def test_more_than_forty_keys_together(self):
        for few in range(1, 41):
            refuse(self, TooMany, lean_join, left_chain(range(few)), left_chain(range(41 - few)))
        refuse(self, TooMany, lean_join, balanced(40), balanced(40))

    def test_too_many_comes_before_not_leaning(self):
        refuse(self, TooMany, lean_join, right_chain(range(40)), leaf(1))
        refuse(self, TooMany, lean_join, leaf(1), right_chain(range(40)))
        refuse(self, TooMany, lean_join, right_chain(range(21)), right_chain(range(20)))

    def test_not_leaning_on_either_side(self):
        for heap in (SLANTING, right_chain(range(39)), (((), 1, leaf(2)), 0, leaf(1)), (leaf(1), 0, SLANTING)):
            for other in ((), leaf(1)):
                refuse(self, NotLeaning, lean_join, heap, other)
                refuse(self, NotLeaning, lean_join, other, heap)
        refuse(self, NotLeaning, lean_join, SLANTING, SLANTING)


class Taken(unittest.TestCase):
    def take_all(self, heap):
        keys = keys_of(heap)
        while keys:
            told = lean_take(heap)
            self.assertIs(type(told), tuple)
            key, heap = told
            self.assertEqual(key, keys.pop(0))
            self.assertEqual(keys_of(heap), keys)
            self.assertEqual(slanting_ways(heap), [])
        self.assertEqual(heap, ())
        refuse(self, Empty, lean_take, heap)

    def test_until_nothing_is_left(self):
        for heap in (leaf(3), left_chain(range(40)), left_chain([2] * 40), balanced(40), lean_of(mixed(40)),
                     lean_of([GREAT, -GREAT, 0, 0])):
            self.take_all(heap)

    def test_all_small_leaning_heaps(self):
        for many in range(1, 8):
            for heap in leaning_heaps(many):
                self.take_all(heap)

    def test_refused_in_the_told_order(self):
        refuse_each(self, BadHeap, lean_take, WRONG_HEAPS)
        refuse_each(self, NotLeaning, lean_take, [SLANTING, right_chain(range(40)), (leaf(1), 0, SLANTING)])
        refuse(self, Empty, lean_take, ())


class LeanOf(unittest.TestCase):
    def test_no_key_to_forty(self):
        self.assertEqual(lean_of([]), ())
        self.assertEqual(lean_of([5]), leaf(5))
        for many in range(41):
            rising = list(range(many))
            for keys in (rising, rising[::-1], [4] * many, mixed(many), [key % 3 for key in mixed(many)],
                         [-GREAT * key for key in rising]):
                heap = lean_of(keys)
                self.assertEqual(keys_of(heap), sorted(keys))
                self.assertEqual(slanting_ways(heap), [])

    def test_the_list_stays_as_it_was_and_is_not_kept(self):
        keys = [3, 1, 2]
        heap = lean_of(keys)
        self.assertEqual(keys, [3, 1, 2])
        keys[0] = 0
        self.assertEqual(keys_of(heap), [1, 2, 3])
        self.assertEqual(keys_of(lean_of(keys)), [0, 1, 2])
        keys.append(9)
        self.assertEqual(keys_of(lean_of(keys)), [0, 1, 2, 9])

    def test_refused(self):
        refuse_each(self, BadKey, lean_of, WRONG_KEYS)


if __name__ == "__main__":
    unittest.main()

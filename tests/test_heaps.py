"""Points [1] and [2]: heaps that are handed in, and keys_of."""

import unittest

from heapmeld.errors import BadHeap
from heapmeld.heaps import keys_of
from tests.helpers import WRONG_HEAPS, balanced, leaf, left_chain, refuse_each, right_chain, shared, zigzag

GREAT = 10 ** 400


class KeysOf(unittest.TestCase):
    def test_no_key_and_one_key(self):
        self.assertEqual(keys_of(()), [])
        for key in (0, 7, -7, GREAT, -GREAT):
            self.assertEqual(keys_of(leaf(key)), [key])

    def test_rising_whatever_the_sides(self):
        heap = ((leaf(9), 4, leaf(5)), 1, ((), 2, leaf(3)))
        self.assertEqual(keys_of(heap), [1, 2, 3, 4, 5, 9])
        self.assertEqual(keys_of((heap[2], 1, heap[0])), [1, 2, 3, 4, 5, 9])

    def test_alike_keys_are_told_as_often_as_they_stand(self):
        self.assertEqual(keys_of((leaf(2), 2, (leaf(2), 2, leaf(3)))), [2, 2, 2, 2, 3])
        part = leaf(5)
        self.assertEqual(keys_of((part, 1, part)), [1, 5, 5])

    def test_negative_and_very_great_keys(self):
        heap = ((leaf(GREAT + 1), GREAT, ()), -GREAT, leaf(-1))
        self.assertEqual(keys_of(heap), [-GREAT, -1, GREAT, GREAT + 1])

    def test_forty_keys(self):
        keys = list(range(-20, 20))
        for made in (left_chain, right_chain, zigzag):
            self.assertEqual(keys_of(made(keys)), keys)
        self.assertEqual(len(keys_of(balanced(40))), 40)
        self.assertEqual(keys_of(left_chain([0] * 40)), [0] * 40)

    def test_what_is_told_is_a_new_list(self):
        heap = (leaf(2), 1, leaf(3))
        told = keys_of(heap)
        self.assertIsInstance(told, list)
        told.append(99)
        told[0] = 50
        self.assertEqual(keys_of(heap), [1, 2, 3])


class Refused(unittest.TestCase):
    def test_what_is_no_heap_of_forty_keys(self):
        refuse_each(self, BadHeap, keys_of, WRONG_HEAPS)

    def test_a_heap_within_the_limit_may_have_a_part_twice(self):
        self.assertEqual(len(keys_of(shared(5))), 31)


class NothingKept(unittest.TestCase):
    def test_a_list_within_stays_as_it_was(self):
        inner = [(), 1, ()]
        with self.assertRaises(BadHeap):
            keys_of((inner, 0, ()))
        self.assertEqual(inner, [(), 1, ()])


if __name__ == "__main__":
    unittest.main()

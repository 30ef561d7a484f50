"""Points [1] and [2]: heaps that are handed in, and keys_of."""

import unittest

from heapmeld.errors import BadHeap
from heapmeld.heaps import keys_of
from tests.helpers import NOT_NUMBERS, at_once, balanced, leaf, left_chain, right_chain, shared, zigzag

GREAT = 10 ** 400


class KeysOf(unittest.TestCase):
    def test_no_key_and_one_key(self):
        self.assertEqual(keys_of(()), [])
        for key in (0, 7, -7, GREAT, -GREAT):
            self.assertEqual(keys_of(leaf(key)), [key])

    def test_rising_whatever_the_sides(self):
        heap = ((leaf(9), 4, leaf(5)), 1, ((), 2, leaf(3)))
        self.assertEqual(keys_of(heap), [1, 2, 3, 4, 5, 9])
        self.assertEqual(keys_of((heap[2], 1, heap[0])), [1, 2, 3, 4, 5, 9])

    def test_alike_keys_are_told_as_often_as_they_stand(self):
        self.assertEqual(keys_of((leaf(2), 2, (leaf(2), 2, leaf(3)))), [2, 2, 2, 2, 3])
        part = leaf(5)
        self.assertEqual(keys_of((part, 1, part)), [1, 5, 5])

    def test_negative_and_very_great_keys(self):
        heap = ((leaf(GREAT + 1), GREAT, ()), -GREAT, leaf(-1))
        self.assertEqual(keys_of(heap), [-GREAT, -1, GREAT, GREAT + 1])

    def test_forty_keys(self):
        keys = list(range(-20, 20))
        for made in (left_chain, right_chain, zigzag):
            self.assertEqual(keys_of(made(keys)), keys)
        self.assertEqual(len(keys_of(balanced(40))), 40)
        self.assertEqual(keys_of(left_chain([0] * 40)), [0] * 40)

    def test_what_is_told_is_a_new_list(self):
        heap = (leaf(2), 1, leaf(3))
        told = keys_of(heap)
        self.assertIsInstance(told, list)
        told.append(99)
        told[0] = 50
        self.assertEqual(keys_of(heap), [1, 2, 3])


class Refused(unittest.TestCase):
    def refuse(self, heap):
        with at_once(), self.assertRaises(BadHeap):
            keys_of(heap)

    def test_forty_one_keys(self):
        keys = list(range(41))
        for heap in (left_chain(keys), right_chain(keys), zigzag(keys), balanced(41), left_chain([0] * 41)):
            self.refuse(heap)

    def test_a_side_with_a_lesser_key(self):
        self.refuse((leaf(0), 1, ()))
        self.refuse(((), 1, leaf(0)))
        self.refuse((leaf(2), 1, ((), 3, leaf(2))))
        self.refuse(((leaf(2), 3, ()), 1, leaf(2)))
        self.refuse((leaf(-GREAT - 1), -GREAT, ()))
        self.refuse(left_chain(list(range(39)) + [37]))

    def test_lists_in_place_of_tuples(self):
        for heap in ([], [(), 1, ()], ([], 1, ()), ((), 1, []), (leaf(2), 1, [(), 2, ()]), [[], 1, []]):
            self.refuse(heap)

    def test_tuples_of_another_length(self):
        for heap in ((1,), ((),), ((), 1), (1, ()), ((), 1, (), ()), ((), (), 1, ()), ((), 1, ((), 2)),
                     (((), 2, (), 3), 1, ()), ((), ()), (1, 2, 3)):
            self.refuse(heap)

    def test_keys_that_are_no_numbers(self):
        for key in NOT_NUMBERS:
            with self.subTest(key=key):
                self.refuse(leaf(key))
                self.refuse((leaf(key), 0, ()))
                self.refuse(((), 0, leaf(key)))

    def test_what_is_no_heap_at_all(self):
        for value in NOT_NUMBERS + [0, 1, -1, "()", "heap", [()], {(): ()}]:
            if value != ():
                with self.subTest(value=value):
                    self.refuse(value)

    def test_nested_very_deep(self):
        keys = list(range(5000))
        self.refuse(left_chain(keys))
        self.refuse(right_chain(keys))
        self.refuse(zigzag(keys))
        deep_tuple, deep_list = (), []
        for level in range(100000):
            deep_tuple, deep_list = (deep_tuple,), [deep_list]
        for deep in (deep_tuple, deep_list):
            self.refuse(deep)
            self.refuse(leaf(deep))
            self.refuse((deep, 1, ()))
            self.refuse(((), 1, deep))

    def test_parts_that_stand_in_it_again_and_again(self):
        for levels in (6, 60, 1000, 100000):
            self.refuse(shared(levels))
            self.refuse((leaf(1), 0, shared(levels)))
        alike = ()
        for level in range(200):
            alike = (alike, 0, alike)
        self.refuse(alike)

    def test_a_heap_within_the_limit_may_have_a_part_twice(self):
        self.assertEqual(len(keys_of(shared(5))), 31)


class NothingKept(unittest.TestCase):
    def test_a_list_within_stays_as_it_was(self):
        inner = [(), 1, ()]
        with self.assertRaises(BadHeap):
            keys_of((inner, 0, ()))
        self.assertEqual(inner, [(), 1, ()])


if __name__ == "__main__":
    unittest.main()

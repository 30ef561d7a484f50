"""Points [1], [3] and [4]: rows, heaps of rows, and how many rows a shape has."""

import collections
import itertools
import math
import unittest

from heapmeld.errors import BadHeap, BadKey, BadShape
from heapmeld.heaps import keys_of
from heapmeld.rows import heap_of, how_many_rows, row_of
from tests.helpers import (NOT_NUMBERS, at_once, balanced, form_of, forms, keyed, leaf, left_chain, right_chain,
                           shared, zigzag)

GREAT = 10 ** 400


def mixed(many):
    """So many unlike keys in no plain order."""
    return [(at * 17 + 5) % 41 - 20 for at in range(many)]


class RowOf(unittest.TestCase):
    def test_from_left_to_right(self):
        self.assertEqual(row_of(()), [])
        self.assertEqual(row_of(leaf(3)), [3])
        self.assertEqual(row_of((leaf(5), 1, leaf(4))), [5, 1, 4])
        heap = ((leaf(9), 4, leaf(5)), 1, ((), 2, leaf(3)))
        self.assertEqual(row_of(heap), [9, 4, 5, 1, 2, 3])

    def test_alike_keys(self):
        self.assertEqual(row_of((leaf(1), 1, (leaf(2), 1, leaf(1)))), [1, 1, 2, 1, 1])

    def test_forty_keys(self):
        keys = list(range(40))
        self.assertEqual(row_of(right_chain(keys)), keys)
        self.assertEqual(row_of(left_chain(keys)), keys[::-1])

    def test_what_is_told_is_a_new_list(self):
        heap = (leaf(2), 1, leaf(3))
        row_of(heap).append(9)
        self.assertEqual(row_of(heap), [2, 1, 3])
        empty = row_of(())
        empty.append(1)
        self.assertEqual(row_of(()), [])

    def test_refused_like_any_heap(self):
        keys = list(range(5000))
        wrong = [[], None, 0, True, "", ((), True, ()), ((), None, ()), ((), "1", ()), (leaf(0), 1, ()), (1,),
                 ((), 1, []), left_chain(range(41)), balanced(41), left_chain(keys), right_chain(keys), shared(100)]
        for heap in wrong:
            with at_once(), self.assertRaises(BadHeap):
                row_of(heap)


class HeapOf(unittest.TestCase):
    def test_no_key_and_one_key(self):
        self.assertEqual(heap_of([]), ())
        for key in (0, -3, GREAT):
            self.assertEqual(heap_of([key]), leaf(key))

    def test_rising_falling_and_mixed(self):
        self.assertEqual(heap_of([1, 2, 3]), ((), 1, ((), 2, ((), 3, ()))))
        self.assertEqual(heap_of([3, 2, 1]), (((leaf(3)), 2, ()), 1, ()))
        self.assertEqual(heap_of([9, 4, 5, 1, 2, 3]), ((leaf(9), 4, leaf(5)), 1, ((), 2, leaf(3))))
        self.assertEqual(heap_of([GREAT, -GREAT, 0]), (leaf(GREAT), -GREAT, leaf(0)))

    def test_forty_keys(self):
        keys = list(range(40))
        self.assertEqual(heap_of(keys), right_chain(keys))
        self.assertEqual(heap_of(keys[::-1]), left_chain(keys))
        self.assertEqual(row_of(heap_of(mixed(40))), mixed(40))

    def test_the_heap_of_a_row_has_that_row(self):
        for many in range(7):
            for row in itertools.permutations(range(-2, many - 2)):
                heap = heap_of(list(row))
                self.assertEqual(row_of(heap), list(row))
                self.assertEqual(keys_of(heap), sorted(row))

    def test_the_row_of_a_heap_leads_back_to_it(self):
        for many in range(8):
            for form in forms(many):
                heap = keyed(form, range(many))
                self.assertEqual(heap_of(row_of(heap)), heap)
        for heap in (zigzag(range(40)), left_chain(range(40)), keyed(balanced(40), range(40))):
            self.assertEqual(heap_of(row_of(heap)), heap)

    def test_the_row_stays_as_it_was_and_is_not_kept(self):
        row = [3, 1, 2]
        heap = heap_of(row)
        self.assertEqual(row, [3, 1, 2])
        row[0] = 0
        self.assertEqual(heap, (leaf(3), 1, leaf(2)))
        self.assertEqual(heap_of(row), ((), 0, ((), 1, leaf(2))))
        row.append(-1)
        self.assertEqual(heap_of(row), (((), 0, ((), 1, leaf(2))), -1, ()))


class HeapOfRefused(unittest.TestCase):
    def refuse(self, row):
        with at_once(), self.assertRaises(BadKey):
            heap_of(row)

    def test_alike_keys(self):
        for row in ([1, 1], [0, 1, 0], [GREAT, GREAT + 0], [-1, -1], [0, -0], list(range(39)) + [38]):
            self.refuse(row)

    def test_forty_one_keys(self):
        self.refuse(list(range(41)))
        self.refuse([0] * 41)
        self.refuse(list(range(100000)))

    def test_keys_that_are_no_numbers(self):
        for key in NOT_NUMBERS:
            with self.subTest(key=key):
                self.refuse([key])
                self.refuse([5, key])
                self.refuse([key, 5, 6])

    def test_what_is_no_list(self):
        for row in NOT_NUMBERS + [0, 1, (1, 2), "12", b"12", {1: 2}, {1, 2}, range(3), iter([1]), leaf(1)]:
            if row != [] and row != [1]:
                with self.subTest(row=row):
                    self.refuse(row)

    def test_nested_very_deep(self):
        deep_list, deep_tuple = [], ()
        for level in range(5000):
            deep_list, deep_tuple = [deep_list], (deep_tuple,)
        for row in (deep_list, deep_tuple, [deep_tuple], [1, deep_list], left_chain(range(5000))):
            self.refuse(row)
        round_row = [1]
        round_row.append(round_row)
        self.refuse(round_row)

    def test_a_refused_list_stays_as_it_was(self):
        row = [2, [1], 2]
        self.refuse(row)
        self.assertEqual(row, [2, [1], 2])


class HowManyRows(unittest.TestCase):
    def test_few_knots(self):
        self.assertEqual(how_many_rows(()), 1)
        self.assertEqual(how_many_rows(leaf(0)), 1)
        self.assertEqual(how_many_rows((leaf(0), 0, leaf(0))), 2)
        self.assertEqual(how_many_rows((leaf(0), 0, (leaf(0), 0, leaf(0)))), 8)

    def test_against_all_rows_gone_through(self):
        for many in range(8):
            rows = collections.Counter(form_of(heap_of(list(row))) for row in itertools.permutations(range(many)))
            for form in forms(many):
                self.assertEqual(how_many_rows(form), rows[form])

    def test_chains_have_one_row(self):
        for many in (1, 2, 39, 40):
            for made in (left_chain, right_chain, zigzag):
                self.assertEqual(how_many_rows(made(range(many))), 1)

    def test_full_forms(self):
        self.assertEqual([how_many_rows(balanced(many)) for many in (1, 3, 7, 15, 31)],
                         [1, 2, 80, 21964800, 74836825861835980800000])

    def test_forms_of_forty_knots(self):
        sides = (left_chain(range(20)), 0, right_chain(range(19)))
        self.assertEqual(how_many_rows(sides), math.comb(39, 20))
        self.assertEqual(how_many_rows((left_chain(range(38)), 0, leaf(0))), 39)

        def counted(form):
            """The number of rows, by sharing the keys out to both sides, and how many knots."""
            if not form:
                return 1, 0
            (one, few), (other, more) = counted(form[0]), counted(form[2])
            return one * other * math.comb(few + more, few), few + more + 1
        self.assertEqual(how_many_rows(balanced(40)), counted(balanced(40))[0])

    def test_it_hangs_on_the_form_alone(self):
        for form in forms(4):
            told = how_many_rows(form)
            for keys in ([3, 2, 1, 0], [0, 1, 2, 3], [5, 5, 5, 5], [-GREAT, GREAT, 0, -1]):
                self.assertEqual(how_many_rows(keyed(form, keys)), told)
        self.assertEqual(how_many_rows((leaf(0), 9, leaf(-4))), 2)


class HowManyRowsRefused(unittest.TestCase):
    def refuse(self, shape):
        with at_once(), self.assertRaises(BadShape):
            how_many_rows(shape)

    def test_forty_one_knots(self):
        for shape in (left_chain(range(41)), right_chain([0] * 41), zigzag(range(41)), balanced(41)):
            self.refuse(shape)

    def test_what_is_no_form(self):
        for shape in NOT_NUMBERS + [0, 1, (1, 2), (1, 2, 3), ((), 1), ((), 1, (), ()), [(), 1, ()], ([], 1, ()),
                                    ((), 1, []), ((), 1, None), (leaf(1), 1, ((), 1)), "()"]:
            if shape != ():
                with self.subTest(shape=shape):
                    self.refuse(shape)

    def test_keys_that_are_no_numbers(self):
        for key in NOT_NUMBERS:
            with self.subTest(key=key):
                self.refuse(leaf(key))
                self.refuse((leaf(key), 0, ()))
                self.refuse(((), 0, leaf(key)))

    def test_nested_very_deep(self):
        deep_list, deep_tuple = [], ()
        for level in range(5000):
            deep_list, deep_tuple = [deep_list], (deep_tuple,)
        for shape in (left_chain(range(5000)), right_chain([0] * 5000), zigzag(range(5000)), deep_list, deep_tuple,
                      leaf(deep_tuple), (deep_tuple, 0, ()), ((), 0, deep_list)):
            self.refuse(shape)

    def test_parts_that_stand_in_it_again_and_again(self):
        for levels in (6, 60, 1000, 100000):
            self.refuse(shared(levels))
        self.assertEqual(how_many_rows(shared(4)), 21964800)


if __name__ == "__main__":
    unittest.main()

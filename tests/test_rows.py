"""Points [1], [3] and [4]: rows, heaps of rows, and how many rows a shape has."""

import collections
import itertools
import math
import unittest

from heapmeld.errors import BadHeap, BadKey, BadShape
from heapmeld.heaps import keys_of
from heapmeld.rows import heap_of, how_many_rows, row_of
from tests.helpers import (WRONG_FORMS, WRONG_HEAPS, WRONG_KEYS, WRONG_ORDERS, balanced, form_of, forms, keyed, leaf,
                           left_chain, mixed, refuse_each, right_chain, shared, zigzag)

GREAT = 10 ** 400


class RowOf(unittest.TestCase):
    def test_from_left_to_right(self):
        self.assertEqual(row_of(()), [])
        self.assertEqual(row_of(leaf(3)), [3])
        self.assertEqual(row_of((leaf(5), 1, leaf(4))), [5, 1, 4])
        heap = ((leaf(9), 4, leaf(5)), 1, ((), 2, leaf(3)))
        self.assertEqual(row_of(heap), [9, 4, 5, 1, 2, 3])

    def test_alike_keys(self):
        self.assertEqual(row_of((leaf(1), 1, (leaf(2), 1, leaf(1)))), [1, 1, 2, 1, 1])

    def test_forty_keys(self):
        keys = list(range(40))
        self.assertEqual(row_of(right_chain(keys)), keys)
        self.assertEqual(row_of(left_chain(keys)), keys[::-1])

    def test_what_is_told_is_a_new_list(self):
        heap = (leaf(2), 1, leaf(3))
        row_of(heap).append(9)
        self.assertEqual(row_of(heap), [2, 1, 3])
        empty = row_of(())
        empty.append(1)
        self.assertEqual(row_of(()), [])

    def test_refused_like_any_heap(self):
        refuse_each(self, BadHeap, row_of, WRONG_HEAPS)


class HeapOf(unittest.TestCase):
    def test_no_key_and_one_key(self):
        self.assertEqual(heap_of([]), ())
        for key in (0, -3, GREAT):
            self.assertEqual(heap_of([key]), leaf(key))

    def test_rising_falling_and_mixed(self):
        self.assertEqual(heap_of([1, 2, 3]), ((), 1, ((), 2, ((), 3, ()))))
        self.assertEqual(heap_of([3, 2, 1]), (((leaf(3)), 2, ()), 1, ()))
        self.assertEqual(heap_of([9, 4, 5, 1, 2, 3]), ((leaf(9), 4, leaf(5)), 1, ((), 2, leaf(3))))
        self.assertEqual(heap_of([GREAT, -GREAT, 0]), (leaf(GREAT), -GREAT, leaf(0)))

    def test_forty_keys(self):
        keys = list(range(40))
        self.assertEqual(heap_of(keys), right_chain(keys))
        self.assertEqual(heap_of(keys[::-1]), left_chain(keys))
        self.assertEqual(row_of(heap_of(mixed(40))), mixed(40))

    def test_the_heap_of_a_row_has_that_row(self):
        for many in range(7):
            for row in itertools.permutations(range(-2, many - 2)):
                heap = heap_of(list(row))
                self.assertEqual(row_of(heap), list(row))
                self.assertEqual(keys_of(heap), sorted(row))

    def test_the_row_of_a_heap_leads_back_to_it(self):
        for many in range(8):
            for form in forms(many):
                heap = keyed(form, range(many))
                self.assertEqual(heap_of(row_of(heap)), heap)
        for heap in (zigzag(range(40)), left_chain(range(40)), keyed(balanced(40), range(40))):
            self.assertEqual(heap_of(row_of(heap)), heap)

    def test_the_row_stays_as_it_was_and_is_not_kept(self):
        row = [3, 1, 2]
        heap = heap_of(row)
        self.assertEqual(row, [3, 1, 2])
        row[0] = 0
        self.assertEqual(heap, (leaf(3), 1, leaf(2)))
        self.assertEqual(heap_of(row), ((), 0, ((), 1, leaf(2))))
        row.append(-1)
        self.assertEqual(heap_of(row), (((), 0, ((), 1, leaf(2))), -1, ()))


class HeapOfRefused(unittest.TestCase):
    def test_alike_keys(self):
        refuse_each(self, BadKey, heap_of, [[1, 1], [0, 1, 0], [GREAT, GREAT + 0], [-1, -1], [0, -0],
                                            list(range(39)) + [38]])

    def test_what_is_no_list_of_forty_keys(self):
        refuse_each(self, BadKey, heap_of, WRONG_KEYS)

    def test_a_refused_list_stays_as_it_was(self):
        row = [2, [1], 2]
        refuse_each(self, BadKey, heap_of, [row])
        self.assertEqual(row, [2, [1], 2])


class HowManyRows(unittest.TestCase):
    def test_few_knots(self):
        self.assertEqual(how_many_rows(()), 1)
        self.assertEqual(how_many_rows(leaf(0)), 1)
        self.assertEqual(how_many_rows((leaf(0), 0, leaf(0))), 2)
        self.assertEqual(how_many_rows((leaf(0), 0, (leaf(0), 0, leaf(0)))), 8)

    def test_against_all_rows_gone_through(self):
        for many in range(8):
            rows = collections.Counter(form_of(heap_of(list(row))) for row in itertools.permutations(range(many)))
            for form in forms(many):
                self.assertEqual(how_many_rows(form), rows[form])

    def test_chains_have_one_row(self):
        for many in (1, 2, 39, 40):
            for made in (left_chain, right_chain, zigzag):
                self.assertEqual(how_many_rows(made(range(many))), 1)

    def test_full_forms(self):
        self.assertEqual([how_many_rows(balanced(many)) for many in (1, 3, 7, 15, 31)],
                         [1, 2, 80, 21964800, 74836825861835980800000])

    def test_forms_of_forty_knots(self):
        sides = (left_chain(range(20)), 0, right_chain(range(19)))
        self.assertEqual(how_many_rows(sides), math.comb(39, 20))
        self.assertEqual(how_many_rows((left_chain(range(38)), 0, leaf(0))), 39)

        def counted(form):
            """The number of rows, by sharing the keys out to both sides, and how many knots."""
            if not form:
                return 1, 0
            (one, few), (other, more) = counted(form[0]), counted(form[2])
            return one * other * math.comb(few + more, few), few + more + 1
        self.assertEqual(how_many_rows(balanced(40)), counted(balanced(40))[0])

    def test_it_hangs_on_the_form_alone(self):
        for form in forms(4):
            told = how_many_rows(form)
            for keys in ([3, 2, 1, 0], [0, 1, 2, 3], [5, 5, 5, 5], [-GREAT, GREAT, 0, -1]):
                self.assertEqual(how_many_rows(keyed(form, keys)), told)
        self.assertEqual(how_many_rows((leaf(0), 9, leaf(-4))), 2)


class HowManyRowsRefused(unittest.TestCase):
    def test_what_is_no_form_of_forty_knots(self):
        refuse_each(self, BadShape, how_many_rows, WRONG_FORMS)

    def test_only_the_form_is_asked_for(self):
        self.assertEqual([how_many_rows(form) for form in WRONG_ORDERS], [1, 1, 3, 3, 1, 1, 1])
        self.assertEqual(how_many_rows(shared(4)), 21964800)


if __name__ == "__main__":
    unittest.main()

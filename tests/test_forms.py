"""Points [1] and [8]: leaning shapes counted and numbered."""

import functools
import unittest

from heapmeld.errors import BadCount, BadHeap, BadNumber, NotLeaning
from heapmeld.forms import how_many, number_of, shape_by
from heapmeld.leaning import lean_of
from heapmeld.rows import heap_of
from tests.helpers import (DEEP_LIST, DEEP_TUPLE, NOT_NUMBERS, WRONG_HEAPS, balanced, form_of, forms, keyed, leaf,
                           left_chain, mixed, rank, refuse, refuse_each, right_chain, size, slanting_ways)

GREAT = 10 ** 400
NO_NUMBERS = NOT_NUMBERS + [DEEP_LIST, DEEP_TUPLE]


def leaning_forms(many):
    return [form for form in forms(many) if not slanting_ways(form)]


def place(form):
    """What is compared, one after the other, when forms of as many knots are put in order."""
    return (rank(form), size(form[0]), place(form[0]), place(form[2])) if form else ()


@functools.lru_cache(maxsize=None)
def counted(many, height):
    """How many leaning shapes there are of so many keys and this rank, by the words alone."""
    if many == 0 or height == 0:
        return int(many == height)
    return sum(counted(few, one) * counted(many - 1 - few, other)
               for few in range(many)
               for one in range(few + 1)
               for other in range(min(one, many - 1 - few) + 1)
               if min(one, other) + 1 == height)


class HowMany(unittest.TestCase):
    def test_against_all_leaning_shapes_gone_through(self):
        for many in range(11):
            self.assertEqual(how_many(many), len(leaning_forms(many)))

    def test_no_key_to_forty(self):
        self.assertEqual([how_many(many) for many in range(11)], [1, 1, 1, 2, 4, 8, 17, 38, 87, 203, 482])
        for many in range(41):
            self.assertEqual(how_many(many), sum(counted(many, height) for height in range(many + 1)))

    def test_refused(self):
        refuse_each(self, BadCount, how_many, NO_NUMBERS + [-1, 41, -40, 42, GREAT, -GREAT])


class ShapeBy(unittest.TestCase):
    def test_few_keys(self):
        self.assertEqual(shape_by(0, 0), ())
        self.assertEqual(shape_by(1, 0), leaf(0))
        self.assertEqual(shape_by(2, 0), (leaf(0), 0, ()))
        self.assertEqual([shape_by(3, number) for number in range(2)],
                         [((leaf(0), 0, ()), 0, ()), (leaf(0), 0, leaf(0))])
        self.assertEqual([shape_by(4, number) for number in range(4)],
                         [(((leaf(0), 0, ()), 0, ()), 0, ()), ((leaf(0), 0, leaf(0)), 0, ()),
                          (leaf(0), 0, (leaf(0), 0, ())), ((leaf(0), 0, ()), 0, leaf(0))])

    def test_each_shape_once_in_the_told_order(self):
        for many in range(11):
            told = [shape_by(many, number) for number in range(how_many(many))]
            self.assertEqual(told, sorted(leaning_forms(many), key=place))

    def test_forty_keys(self):
        most = how_many(40)
        self.assertEqual(shape_by(40, 0), left_chain([0] * 40))
        numbers = [0, 1, 2, 40, most // 3, most // 2, most - 10 ** 6, most - 2, most - 1]
        for height in range(1, 6):
            first = sum(counted(40, lesser) for lesser in range(height))
            self.assertEqual(rank(shape_by(40, first)), height)
            if first:
                self.assertEqual(rank(shape_by(40, first - 1)), height - 1)
            numbers += [number for number in range(first - 3, first + 4) if 0 <= number < most]
        numbers = sorted(set(numbers))
        told = [shape_by(40, number) for number in numbers]
        for shape in told:
            self.assertEqual(size(shape), 40)
            self.assertEqual(slanting_ways(shape), [])
        places = [place(shape) for shape in told]
        self.assertEqual(places, sorted(places))
        self.assertEqual([number_of(shape) for shape in told], numbers)

    def test_of_each_count_the_first_and_the_last(self):
        for many in range(1, 41):
            first, last = shape_by(many, 0), shape_by(many, how_many(many) - 1)
            self.assertEqual(first, left_chain([0] * many))
            self.assertEqual(rank(last), (many + 1).bit_length() - 1)
            self.assertEqual((number_of(first), number_of(last)), (0, how_many(many) - 1))

    def test_refused_in_the_told_order(self):
        wrong = NO_NUMBERS + [-1, -GREAT, GREAT]
        for many in (0, 1, 2, 5, 40):
            refuse_each(self, BadNumber, lambda number: shape_by(many, number),
                        wrong + [how_many(many), how_many(many) + 1])
        for number in (0, 1, -1, None, True, GREAT):
            refuse_each(self, BadCount, lambda many: shape_by(many, number), wrong + [41])


class NumberOf(unittest.TestCase):
    def test_leads_back(self):
        for many in range(10):
            for number in range(how_many(many)):
                self.assertEqual(number_of(shape_by(many, number)), number)

    def test_against_the_told_order(self):
        for many in range(9):
            told = [number_of(form) for form in sorted(leaning_forms(many), key=place)]
            self.assertEqual(told, list(range(len(told))))

    def test_it_hangs_on_the_shape_alone(self):
        for form in leaning_forms(6):
            for keys in (range(6), [7] * 6, [-GREAT, 0, 1, 1, 2, GREAT]):
                self.assertEqual(number_of(keyed(form, keys)), number_of(form))
        for many in range(41):
            heap = lean_of(mixed(many))
            self.assertEqual(shape_by(many, number_of(heap)), form_of(heap))
        self.assertEqual(number_of(keyed(balanced(40), range(40))), number_of(form_of(balanced(40))))

    def test_refused_in_the_told_order(self):
        refuse_each(self, BadHeap, number_of, WRONG_HEAPS)
        slanting = [((), 0, leaf(0)), right_chain(range(40)), (leaf(0), 0, ((), 0, leaf(0))), heap_of([3, 1, 2, 4])]
        self.assertTrue(all([slanting_ways(heap) for heap in slanting]))
        refuse_each(self, NotLeaning, number_of, slanting)


if __name__ == "__main__":
    unittest.main()

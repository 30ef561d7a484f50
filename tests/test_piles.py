"""Points [1], [11] and [12]: piles, joined, put to, told of keys, and taken from."""

import copy
import itertools
import unittest

from heapmeld.errors import BadKey, BadPile, Empty, TooMany
from heapmeld.piles import pile_join, pile_keys, pile_of, pile_put, pile_take
from tests.helpers import (DEEP_LIST, DEEP_TUPLE, NOT_NUMBERS, WRONG_HEAPS, WRONG_KEYS, leaf, mixed, refuse,
                           refuse_each)

GREAT = 10 ** 400


def tree(order, key=0, step=1):
    """A tree of this order, each child's key greater by the step than that of its tree."""
    return (key, [tree(lesser, key + step, step) for lesser in range(order - 1, -1, -1)])


def pile(many, key=0, step=1):
    """A pile of so many keys."""
    return [tree(order, key, step) for order in range(many.bit_length()) if many >> order & 1]


def one_part(order):
    """A tree of this order in which each lesser one is one and the same part."""
    parts = []
    for at in range(order + 1):
        parts.insert(0, (0, list(parts)))
    return parts[0]


def ones(many):
    return bin(many).count("1")


def keys_in(trees):
    return [key for top, children in trees for key in [top] + keys_in(children)]


def lists_in(value):
    """All lists of a pile, as often as they stand in it."""
    return [value] + [part for top, children in value for part in lists_in(children)]


def tree_order(case, part):
    """The order of a tree, which is gone through by the words."""
    case.assertIs(type(part), tuple)
    key, children = part
    case.assertIs(type(key), int)
    case.assertIs(type(children), list)
    case.assertEqual([tree_order(case, child) for child in children], list(range(len(children)))[::-1])
    case.assertTrue(all(below >= key for below in keys_in(children)))
    return len(children)


def assert_pile(case, told, keys):
    """Checks that it is a pile of just these keys."""
    case.assertIs(type(told), list)
    orders = [tree_order(case, part) for part in told]
    case.assertEqual(orders, sorted(set(orders)))
    case.assertEqual(sorted(keys_in(told)), sorted(keys))
    case.assertEqual(len(told), ones(len(keys)))


def assert_new(case, told, *handed):
    """Checks that no list stands in it twice, nor in what was handed in."""
    new = [id(part) for part in lists_in(told)]
    old = [id(part) for given in handed for part in lists_in(given)]
    case.assertEqual(len(new), len(set(new)))
    case.assertFalse(set(new) & set(old))


def round_list():
    """Trees that stand in themselves."""
    children = []
    children.append((1, children))
    return children


ROUND = round_list()
DEEP_TREE = (0, [])
for level in range(100000):
    DEEP_TREE = (0, [DEEP_TREE])

WRONG_PILES = (
    [value for value in NOT_NUMBERS if value != []]
    + [[part] for part in NOT_NUMBERS]
    + [[(key, [])] for key in NOT_NUMBERS] + [[(0, [(key, [])])] for key in NOT_NUMBERS]
    + [[(1, children)] for children in NOT_NUMBERS if children != []]
    + [[(1, [part])] for part in NOT_NUMBERS]
    # More than 40 keys.
    + [pile(many) for many in (41, 42, 47, 48, 63, 64, 100, 1000)] + [[one_part(order)] for order in (6, 20, 200)]
    # Alike orders, and falling ones.
    + [[(1, []), (2, [])], [tree(3), tree(3)], [tree(1), (1, [])], pile(7)[::-1], [tree(0), tree(2), tree(1)],
       [tree(1), tree(0), tree(2)], [(1, [])] * 2, [(1, [])] * 40, [(1, [])] * 41, [(1, [])] * 100000]
    # Children that are lacking, too many, or in another order.
    + [[(0, [tree(1, 1)])], [(0, [tree(2, 1), (1, [])])], [(0, [tree(1, 1), (1, []), (1, [])])],
       [(0, [(1, []), tree(1, 1)])], [(0, [(1, []), (1, [])])], [(0, [tree(1, 1), tree(1, 1)])],
       [(0, [tree(2, 1), (1, []), tree(1, 1)])], [(0, [(1, [(2, [])])])], [(0, [(1, [])] * 41)],
       [(0, [(1, [])] * 100000)], [(0, [tree(2, 1)[1], (1, [])])]]
    # A child whose key is less than its tree's.
    + [[(1, [(0, [])])], [tree(3, 0, -1)], [(0, [(2, [(1, [])]), (1, [])])], [(0, [(1, [(2, [])]), (-1, [])])],
       [tree(0), (GREAT, [(GREAT - 1, [])])], [(0, [(-1, [(2, [])]), (1, [])])], pile(40, 0, -1)]
    # Lists in place of pairs, tuples in place of lists, pairs of another length.
    + [[[1, []]], [(0, [[1, []]])], ([1, []],), ((1, []),), ((1, ()),), [(1, ())], [(0, ((1, []),))],
       [(0, [(1, ())])], (1, []), [1, []], [(1,)], [(1, [], [])], [([], 1)], [((), 1, ())], [leaf(1)], [()],
       [(1, [], 0, [])], [(0, [(1,)])], [(0, [(1, [], [])])], [(0, [()])], [[]], [[], []], [1], 1, 0, "[]", "pile"]
    # Nested very deep, or with one part again and again.
    + [DEEP_LIST, DEEP_TUPLE, [DEEP_LIST], [DEEP_TUPLE], [DEEP_TREE], [(DEEP_TUPLE, [])], [(DEEP_LIST, [])],
       [(1, DEEP_LIST)], [(1, DEEP_TUPLE)], [(1, [DEEP_TREE])], DEEP_TREE, [(0, []), DEEP_TREE], ROUND, [(1, ROUND)],
       [(1, [(1, ROUND), (1, [])])], [(0, ROUND), (0, [(0, ROUND), (0, [])])]]
    + [heap for heap in WRONG_HEAPS if heap != []])


class PileKeys(unittest.TestCase):
    def test_rising(self):
        self.assertEqual(pile_keys([]), [])
        self.assertEqual(pile_keys([(5, [])]), [5])
        self.assertEqual(pile_keys([(9, []), (3, [(7, [(8, [])]), (3, [])])]), [3, 3, 7, 8, 9])
        self.assertEqual(pile_keys([(GREAT, []), (-GREAT, [(0, [])])]), [-GREAT, 0, GREAT])

    def test_no_key_to_forty(self):
        for many in range(41):
            for step in (0, 1, 3):
                self.assertEqual(pile_keys(pile(many, 2, step)), sorted(keys_in(pile(many, 2, step))))
            self.assertEqual(len(pile_keys(pile(many))), many)

    def test_a_part_may_stand_in_it_twice(self):
        self.assertEqual(pile_keys([one_part(5)]), [0] * 32)

    def test_refused(self):
        refuse_each(self, BadPile, pile_keys, WRONG_PILES)


class Joined(unittest.TestCase):
    def assert_joined(self, one, other):
        before = copy.deepcopy((one, other))
        keys = keys_in(one) + keys_in(other)
        expected_links = ones(len(keys_in(one))) + ones(len(keys_in(other))) - ones(len(keys))
        told = pile_join(one, other)
        self.assertIs(type(told), tuple)
        new, links = told
        assert_pile(self, new, keys)
        assert_new(self, new, one, other)
        self.assertIs(type(links), int)
        self.assertEqual(links, expected_links)
        self.assertEqual((one, other), before)

    def test_of_all_counts(self):
        for few in range(41):
            for more in range(41 - few):
                self.assert_joined(pile(few), pile(more, 1))

    def test_alike_keys_and_keys_between_each_other(self):
        for few in range(21):
            for more in range(few, 21):
                self.assert_joined(pile(few, 3, 0), pile(more, 3, 0))
                self.assert_joined(pile(few, -4, 3), pile(more, -3, 2))

    def test_nothing(self):
        self.assertEqual(pile_join([], []), ([], 0))
        for many in (1, 5, 40):
            self.assert_joined([], pile(many))
            self.assert_joined(pile(many), [])
            self.assertEqual(pile_join([], pile(many))[1], 0)

    def test_one_and_the_same_pile(self):
        for many in range(21):
            same = pile(many)
            self.assert_joined(same, same)
        self.assert_joined([(1, []), one_part(4)], pile(23))
        same = [one_part(4)]
        self.assert_joined(same, same)

    def test_nothing_is_kept(self):
        one, other = [(1, [])], [(2, [])]
        told, links = pile_join(one, other)
        self.assertEqual((told, links), ([(1, [(2, [])])], 1))
        told[0][1][0][1].append("x")
        told[0][1].clear()
        told.append("y")
        self.assertEqual(pile_join(one, other), ([(1, [(2, [])])], 1))
        one[0] = (5, [])
        self.assertEqual(pile_join(one, other), ([(2, [(5, [])])], 1))
        one[0][1].append((6, []))
        self.assertEqual(pile_keys(pile_join(one, other)[0]), [2, 5, 6])
        other[0][1].append("z")
        refuse(self, BadPile, pile_join, one, other)

    def test_refused_in_the_told_order(self):
        for right in ([], pile(1), pile(40)):
            refuse_each(self, BadPile, lambda wrong: pile_join(wrong, right), WRONG_PILES)
            refuse_each(self, BadPile, lambda wrong: pile_join(right, wrong), WRONG_PILES)
        refuse(self, BadPile, pile_join, None, None)
        for few in range(1, 41):
            refuse(self, TooMany, pile_join, pile(few), pile(41 - few))
        refuse(self, TooMany, pile_join, pile(40), pile(40))


class Put(unittest.TestCase):
    def test_to_piles_of_all_counts(self):
        for many in range(40):
            for key in (-1, 0, 1, 3, GREAT, -GREAT):
                old = pile(many)
                told = pile_put(old, key)
                self.assertIs(type(told), tuple)
                new, links = told
                assert_pile(self, new, keys_in(old) + [key])
                assert_new(self, new, old)
                self.assertEqual(links, ones(many) + 1 - ones(many + 1))
                self.assertEqual(old, pile(many))

    def test_nothing_is_kept(self):
        old = [(4, [(5, [])])]
        told, links = pile_put(old, 7)
        self.assertEqual((told, links), ([(7, []), (4, [(5, [])])], 0))
        told[1][1][0][1].append("x")
        told[0][1].append("y")
        told.clear()
        self.assertEqual(pile_put(old, 7), ([(7, []), (4, [(5, [])])], 0))
        old.insert(0, (3, []))
        self.assertEqual(pile_keys(pile_put(old, 7)[0]), [3, 4, 5, 7])

    def test_refused_in_the_told_order(self):
        for key in (1, None, True):
            refuse_each(self, BadPile, lambda wrong: pile_put(wrong, key), WRONG_PILES)
        for many in (0, 1, 39, 40):
            refuse_each(self, BadKey, lambda key: pile_put(pile(many), key), NOT_NUMBERS + [DEEP_LIST, DEEP_TUPLE])
        for key in (0, -1, GREAT):
            refuse(self, TooMany, pile_put, pile(40), key)


class PileOf(unittest.TestCase):
    def test_no_key_to_forty(self):
        self.assertEqual(pile_of([]), ([], 0))
        self.assertEqual(pile_of([5]), ([(5, [])], 0))
        for many in range(41):
            rising = list(range(many))
            for keys in (rising, rising[::-1], [4] * many, mixed(many), [key % 3 for key in mixed(many)]):
                told = pile_of(keys)
                self.assertIs(type(told), tuple)
                new, links = told
                assert_pile(self, new, keys)
                assert_new(self, new)
                self.assertEqual(links, many - ones(many))

    def test_as_put_in_one_by_one(self):
        for keys in itertools.permutations(range(5)):
            new, all_links = [], 0
            for key in keys:
                new, links = pile_put(new, key)
                all_links += links
            self.assertEqual(pile_keys(new), pile_keys(pile_of(list(keys))[0]))
            self.assertEqual(pile_of(list(keys))[1], all_links)

    def test_the_list_stays_as_it_was_and_is_not_kept(self):
        keys = [3, 1, 2]
        told, links = pile_of(keys)
        self.assertEqual(keys, [3, 1, 2])
        keys[0] = 9
        self.assertEqual(pile_keys(told), [1, 2, 3])
        self.assertEqual(pile_keys(pile_of(keys)[0]), [1, 2, 9])
        told[0][1].append("x")
        told.append("y")
        self.assertEqual(pile_keys(pile_of(keys)[0]), [1, 2, 9])
        pile_of([])[0].append("z")
        self.assertEqual(pile_of([]), ([], 0))

    def test_refused(self):
        refuse_each(self, BadKey, pile_of, WRONG_KEYS)


class Taken(unittest.TestCase):
    def take_all(self, old):
        keys = sorted(keys_in(old))
        while keys:
            before = copy.deepcopy(old)
            told = pile_take(old)
            self.assertIs(type(told), tuple)
            key, new = told
            self.assertEqual(key, keys.pop(0))
            assert_pile(self, new, keys)
            assert_new(self, new, old)
            self.assertEqual(old, before)
            old = new
        self.assertEqual(old, [])
        refuse(self, Empty, pile_take, old)

    def test_until_nothing_is_left(self):
        for many in range(41):
            for old in (pile(many), pile(many, 5, 0), pile_of(mixed(many))[0], pile_of(mixed(many)[::-1])[0]):
                self.take_all(old)
        self.take_all([one_part(5)])

    def test_the_least_key_in_any_tree(self):
        self.assertEqual(pile_take([(1, []), (2, [(3, [])])]), (1, [(2, [(3, [])])]))
        self.assertEqual(pile_take([(3, []), (1, [(2, [])])])[0], 1)
        self.assertEqual(pile_take([(3, []), (1, [(2, [])]), (0, [(5, [(5, [])]), (4, [])])])[0], 0)
        for keys in itertools.permutations(range(7)):
            self.assertEqual(pile_take(pile_of(list(keys))[0])[0], 0)

    def test_nothing_is_kept(self):
        old = [(0, []), (1, [(2, [])])]
        key, told = pile_take(old)
        self.assertEqual((key, told), (0, [(1, [(2, [])])]))
        told[0][1][0][1].append("x")
        told[0][1].clear()
        told.clear()
        self.assertEqual(pile_take(old), (0, [(1, [(2, [])])]))
        old.pop(0)
        self.assertEqual(pile_take(old), (1, [(2, [])]))

    def test_refused_in_the_told_order(self):
        refuse_each(self, BadPile, pile_take, WRONG_PILES)
        refuse(self, Empty, pile_take, [])


if __name__ == "__main__":
    unittest.main()

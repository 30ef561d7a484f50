"""Points [1], [5] and [7] as the answers tell of them: Leans, Slants, Leaned and what each shows."""

import itertools
import unittest

from heapmeld.answers import Answer, Leaned, Leans, Slants
from tests.helpers import (all_ways, at_once, balanced, exchanged, forms, keyed, leaf, led, left_chain, rank,
                           right_chain, shared, slanting_ways, slants, zigzag)

# Of its knots, the top and the one of key 2 slant.
CROOKED = (leaf(1), 0, (((), 2, leaf(5)), 1, leaf(4)))


def heaps(many):
    return [keyed(form, range(many)) for form in forms(many)]


class Kinds(unittest.TestCase):
    def test_all_stand_straight_under_answer(self):
        for kind in (Leans, Slants, Leaned):
            self.assertEqual(kind.__bases__, (Answer,))
            self.assertIn("shows", vars(kind))

    def test_fields_are_set_when_created(self):
        self.assertEqual(vars(Leans()), {})
        self.assertEqual(vars(Slants(["left", "right"])), {"way": ["left", "right"]})
        self.assertEqual(vars(Slants([])), {"way": []})
        self.assertEqual(vars(Leaned(leaf(1), [[], ["left"]])), {"heap": leaf(1), "ways": [[], ["left"]]})
        self.assertEqual(vars(Leaned((), [])), {"heap": (), "ways": []})

    def test_fields_are_copies_with_the_lists_within(self):
        way = ["left"]
        answer = Slants(way)
        way.append("right")
        self.assertEqual(answer.way, ["left"])
        ways = [[], ["left"]]
        leaned = Leaned(leaf(1), ways)
        ways[0].append("right")
        ways[1][0] = "right"
        ways.append([])
        self.assertEqual(leaned.ways, [[], ["left"]])

    def test_a_changed_field_changes_nothing_handed_in(self):
        way, ways = ["left"], [[], ["left"]]
        answer, leaned = Slants(way), Leaned(leaf(1), ways)
        answer.way.append("right")
        leaned.ways[0].append("left")
        leaned.ways.append(["x"])
        self.assertEqual((way, ways), (["left"], [[], ["left"]]))
        self.assertEqual(Slants(way).way, ["left"])
        self.assertEqual(Leaned(leaf(1), ways).ways, [[], ["left"]])

    def test_the_same_list_changed_in_place_is_told_anew(self):
        way = []
        first = Slants(way)
        way.append("right")
        self.assertEqual((first.way, Slants(way).way), ([], ["right"]))
        heap = ((), 0, ((), 1, leaf(2)))
        self.assertIs(Slants(way).shows(heap), True)
        way.append("right")
        self.assertIs(Slants(way).shows(heap), False)

    def test_lists_nested_very_deep_are_copied(self):
        deep = ["x"]
        for level in range(5000):
            deep = [deep]
        answer = Slants(deep)
        self.assertIs(answer.shows(CROOKED), False)
        inner, copy = deep, answer.way
        while inner != ["x"]:
            self.assertIsNot(inner, copy)
            inner, copy = inner[0], copy[0]
        self.assertEqual(copy, ["x"])
        self.assertIsNot(inner, copy)


class LeansShows(unittest.TestCase):
    def test_heaps_that_lean_and_that_do_not(self):
        self.assertIs(Leans().shows(()), True)
        self.assertIs(Leans().shows(leaf(5)), True)
        self.assertIs(Leans().shows((leaf(1), 0, ())), True)
        self.assertIs(Leans().shows((leaf(1), 0, leaf(2))), True)
        self.assertIs(Leans().shows(((), 0, leaf(1))), False)
        self.assertIs(Leans().shows((((), 1, leaf(2)), 0, ())), False)
        self.assertIs(Leans().shows(CROOKED), False)

    def test_ranks_and_not_counts_of_keys_are_compared(self):
        self.assertIs(Leans().shows((leaf(1), 0, left_chain(range(1, 9)))), True)
        self.assertIs(Leans().shows((left_chain(range(1, 9)), 0, balanced(3, 1))), False)

    def test_forty_keys(self):
        self.assertIs(Leans().shows(left_chain(range(40))), True)
        self.assertIs(Leans().shows(right_chain(range(40))), False)
        self.assertIs(Leans().shows(zigzag(range(40))), False)

    def test_all_small_heaps(self):
        for many in range(7):
            for heap in heaps(many):
                self.assertIs(Leans().shows(heap), not any(slants(led(heap, way)) for way in all_ways(heap)))


class SlantsShows(unittest.TestCase):
    def test_ways_to_knots_that_slant_and_that_do_not(self):
        self.assertIs(Slants([]).shows(CROOKED), True)
        self.assertIs(Slants(["right", "left"]).shows(CROOKED), True)
        for way in (["left"], ["right"], ["right", "right"], ["right", "left", "right"]):
            self.assertIs(Slants(way).shows(CROOKED), False)

    def test_ways_beyond_the_heap(self):
        self.assertIs(Slants([]).shows(()), False)
        for way in (["left"], ["right"], ["right", "right"], ["left", "right", "left"], ["left"] * 5000):
            self.assertIs(Slants(way).shows(((), 0, leaf(1))) or Slants(way).shows(()), False)

    def test_other_words(self):
        for word in ("", "Left", "LEFT", "left ", " right", "l", "r", "up", "0", "leftright"):
            self.assertIs(Slants([word]).shows(CROOKED), False)
            self.assertIs(Slants([word, "left"]).shows(CROOKED), False)
            self.assertIs(Slants(["right", word]).shows(CROOKED), False)
            self.assertIs(Slants(["right", "left", word]).shows(CROOKED), False)

    def test_no_way_leads_to_a_slant_in_a_leaning_heap(self):
        heap = balanced(15)
        for way in all_ways(heap):
            self.assertIs(Slants(way).shows(heap), False)

    def test_all_small_heaps(self):
        for many in range(6):
            tried = [list(way) for length in range(5) for way in itertools.product(["left", "right"], repeat=length)]
            for heap in heaps(many):
                right = slanting_ways(heap)
                for way in tried:
                    self.assertIs(Slants(way).shows(heap), way in right)

    def test_the_field_as_it_stands_then(self):
        answer = Slants(["left"])
        self.assertIs(answer.shows(CROOKED), False)
        answer.way.pop()
        self.assertIs(answer.shows(CROOKED), True)
        answer.way += ["right", "left"]
        self.assertIs(answer.shows(CROOKED), True)
        answer.way[1] = "right"
        self.assertIs(answer.shows(CROOKED), False)
        answer.way = ["right", "left"]
        self.assertIs(answer.shows(CROOKED), True)
        for field in (("right", "left"), [["right"], ["left"]], [b"right", b"left"], None, "", ()):
            answer.way = field
            self.assertIs(answer.shows(CROOKED), False)

    def test_asking_changes_no_field(self):
        answer = Slants(["right", "left"])
        answer.shows(CROOKED)
        self.assertEqual(answer.way, ["right", "left"])


class LeanedShows(unittest.TestCase):
    def setUp(self):
        self.heap = (((leaf(5), 2, ()), 1, leaf(4)), 0, leaf(1))
        self.ways = [[], ["right", "left"]]

    def assert_shows(self, worth, heap, ways, before=CROOKED):
        self.assertIs(Leaned(heap, ways).shows(before), worth)

    def test_as_it_is_told(self):
        self.assert_shows(True, self.heap, self.ways)
        self.assert_shows(True, (), [], ())
        self.assert_shows(True, leaf(3), [], leaf(3))
        self.assert_shows(True, balanced(15), [], balanced(15))
        self.assert_shows(True, (leaf(1), 0, ()), [[]], ((), 0, leaf(1)))

    def test_ways_are_those_of_the_heap_handed_in(self):
        self.assert_shows(False, self.heap, [[], ["left", "left"]])

    def test_one_lacking(self):
        for ways in ([], [[]], [["right", "left"]]):
            self.assert_shows(False, self.heap, ways)
            self.assert_shows(False, exchanged(CROOKED, ways), ways)

    def test_one_more(self):
        for way in (["left"], ["right"], ["right", "right"], ["right", "left", "right"]):
            ways = sorted(self.ways + [way])
            self.assert_shows(False, self.heap, ways)
            self.assert_shows(False, exchanged(CROOKED, ways), ways)

    def test_one_beyond_the_heap_or_with_other_words(self):
        for way in (["left", "left"], ["right"] * 3, ["up"], ["Left"]):
            self.assert_shows(False, self.heap, sorted(self.ways + [way]))
            self.assert_shows(False, self.heap, [[], way])
        self.assert_shows(False, (), [[]], ())

    def test_in_another_order_or_twice(self):
        self.assert_shows(False, self.heap, self.ways[::-1])
        self.assert_shows(False, self.heap, [[], [], ["right", "left"]])
        self.assert_shows(False, self.heap, [[], ["right", "left"], ["right", "left"]])
        self.assert_shows(False, self.heap, [[], []])

    def test_shorter_ways_come_first_and_left_before_right(self):
        before = ((((), 2, leaf(4)), 1, ((), 3, leaf(5))), 0, (leaf(9), 1, ((), 7, leaf(8))))
        ways = slanting_ways(before)
        self.assertEqual(ways, [["left", "left"], ["left", "right"], ["right", "right"]])
        for order in itertools.permutations(ways):
            self.assert_shows(list(order) == ways, exchanged(before, ways), list(order), before)

    def test_an_exchange_of_alike_sides_is_one_more(self):
        before = (leaf(1), 0, leaf(1))
        self.assert_shows(True, before, [], before)
        self.assert_shows(False, before, [[]], before)

    def test_another_heap(self):
        self.assert_shows(False, CROOKED, self.ways)
        self.assert_shows(False, CROOKED, [])
        self.assert_shows(False, (), self.ways)
        self.assert_shows(False, self.heap, self.ways, ())
        self.assert_shows(False, self.heap, self.ways, self.heap)
        self.assert_shows(False, (self.heap[2], 0, self.heap[0]), self.ways)

    def test_one_key_changed_lacking_or_more(self):
        self.assert_shows(False, (((leaf(6), 2, ()), 1, leaf(4)), 0, leaf(1)), self.ways)
        self.assert_shows(False, (((leaf(5), 2, ()), 1, leaf(4)), -1, leaf(1)), self.ways)
        self.assert_shows(False, (((leaf(5), 2, ()), 1, leaf(4)), 0, leaf(2)), self.ways)
        self.assert_shows(False, (((leaf(5), 2, ()), 1, ()), 0, leaf(1)), self.ways)
        self.assert_shows(False, (((leaf(5), 2, ()), 1, leaf(4)), 0, (leaf(1), 1, ())), self.ways)

    def test_a_truth_is_no_key(self):
        self.assert_shows(False, (((leaf(5), 2, ()), True, leaf(4)), 0, leaf(1)), self.ways)
        self.assert_shows(False, (((leaf(5), 2, ()), 1, leaf(4)), False, leaf(1)), self.ways)

    def test_forty_keys(self):
        ways = [["right"] * many for many in range(39)]
        self.assert_shows(True, left_chain(range(40)), ways, right_chain(range(40)))
        self.assert_shows(False, left_chain(range(40)), ways[1:], right_chain(range(40)))
        self.assert_shows(False, left_chain(range(40)), ways + [["right"] * 39], right_chain(range(40)))
        self.assert_shows(True, left_chain(range(40)), [], left_chain(range(40)))

    def test_all_small_heaps_with_all_ways(self):
        for many in range(5):
            for before in heaps(many):
                right = slanting_ways(before)
                for length in range(many + 1):
                    for ways in itertools.permutations(all_ways(before), length):
                        ways = list(ways)
                        after = exchanged(before, ways)
                        leans = not slanting_ways(after)
                        truth = leans and ways == sorted(ways) and all(way in right for way in ways)
                        self.assert_shows(truth, after, ways, before)
                        self.assert_shows(ways == right, exchanged(before, right), ways, before)

    def test_exchanges_change_no_rank(self):
        for before in heaps(6):
            after = exchanged(before, slanting_ways(before))
            self.assertEqual(rank(after), rank(before))
            self.assert_shows(True, after, slanting_ways(before), before)

    def test_the_fields_as_they_stand_then(self):
        answer = Leaned(self.heap, self.ways)
        answer.ways.append(["left"])
        self.assertIs(answer.shows(CROOKED), False)
        answer.ways.pop()
        self.assertIs(answer.shows(CROOKED), True)
        answer.ways[1][1] = "right"
        self.assertIs(answer.shows(CROOKED), False)
        answer.ways[1][1] = "left"
        answer.heap = CROOKED
        self.assertIs(answer.shows(CROOKED), False)
        answer.heap = self.heap
        self.assertIs(answer.shows(CROOKED), True)
        for ways in ((), None, "", ([], ["right", "left"]), [(), ("right", "left")]):
            answer.ways = ways
            self.assertIs(answer.shows(CROOKED), False)
        answer.ways = [[], ["right", "left"]]
        self.assertIs(answer.shows(CROOKED), True)

    def test_asking_changes_no_field(self):
        answer = Leaned(self.heap, self.ways)
        answer.shows(CROOKED)
        self.assertEqual((answer.heap, answer.ways), (self.heap, [[], ["right", "left"]]))


class BeyondTheLimit(unittest.TestCase):
    """No refusal is told of shows: greater heaps are judged, and what has no end does not hold it up."""

    def test_somewhat_greater_heaps(self):
        self.assertIs(Leans().shows(left_chain(range(60))), True)
        self.assertIs(Slants(["right"] * 45).shows(right_chain(range(60))), True)
        ways = [["right"] * many for many in range(59)]
        self.assertIs(Leaned(left_chain(range(60)), ways).shows(right_chain(range(60))), True)

    def test_heaps_nested_very_deep(self):
        leaning, crooked = left_chain(range(3000)), right_chain(range(3000))
        self.assertIs(Leans().shows(leaning), True)
        self.assertIs(Leans().shows(crooked), False)
        self.assertIs(Slants(["right"] * 2998).shows(crooked), True)
        self.assertIs(Slants(["right"] * 2999).shows(crooked), False)
        self.assertIs(Leaned(leaning, []).shows(leaning), True)
        self.assertIs(Leaned(leaning, [[]]).shows(crooked), False)

    def test_parts_that_stand_in_it_again_and_again(self):
        heap = shared(100)
        with at_once():
            self.assertIs(Leans().shows(heap), False)
            self.assertIs(Slants([]).shows(heap), False)
            self.assertIs(Leaned(heap, []).shows(heap), False)
            self.assertIs(Leaned(heap, []).shows(()), False)
            self.assertIs(Leaned(leaf(1), []).shows(heap), False)


if __name__ == "__main__":
    unittest.main()

"""Heaps joined by turns, and the purse that pays for it."""

from heapmeld.errors import Empty
from heapmeld.heaps import checked_both, checked_knots
from heapmeld.knots import outweighed_of, sizes_of


def turn_join(one, other):
    """The two heaps joined by turns, and how many steps there were."""
    checked_both(one, other)
    return turned(one, other)


def turn_take(heap):
    """The least key of the heap, its sides joined by turns, and how many steps there were."""
    checked_knots(heap)
    if not heap:
        raise Empty("no key to take")
    left, key, right = heap
    below, steps = turned(left, right)
    return (key, below, steps)


def purse(heap):
    """How many knots of the heap are heavy."""
    knots = checked_knots(heap)
    return outweighed_of(knots, sizes_of(knots)).count(True)


def turned(one, other):
    """Two heaps that are known to be heaps, joined by turns, and how many steps there were."""
    if not one:
        return (other, 0)
    if not other:
        return (one, 0)
    if other[1] < one[1]:
        one, other = other, one
    left, key, right = one
    below, steps = turned(right, other)
    return ((below, key, left), steps + 1)

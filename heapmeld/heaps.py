"""Heaps that are handed in, and their keys."""

from heapmeld.errors import BadHeap, TooMany
from heapmeld.knots import MOST_KEYS, heap_knots_of


def checked_knots(heap):
    """The knots of a heap that is handed in, or BadHeap."""
    knots = heap_knots_of(heap, MOST_KEYS)
    if knots is None:
        raise BadHeap("no heap of at most 40 keys")
    return knots


def checked_both(one, other):
    """The knots of two heaps that are handed in to be joined, or BadHeap, then TooMany."""
    first = checked_knots(one)
    second = checked_knots(other)
    if len(first) + len(second) > MOST_KEYS:
        raise TooMany("more than 40 keys together")
    return (first, second)


def keys_of(heap):
    """All keys of the heap, rising."""
    return sorted([key for left, key, right in checked_knots(heap)])

"""Heaps that are handed in, and their keys."""

from heapmeld.errors import BadHeap
from heapmeld.knots import MOST_KEYS, heap_knots_of


def checked_knots(heap):
    """The knots of a heap that is handed in, or BadHeap."""
    knots = heap_knots_of(heap, MOST_KEYS)
    if knots is None:
        raise BadHeap("no heap of at most 40 keys")
    return knots


def keys_of(heap):
    """All keys of the heap, rising."""
    return sorted([key for left, key, right in checked_knots(heap)])

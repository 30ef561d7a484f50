"""Rows read from heaps, heaps told by rows, and how many rows a shape has."""

from heapmeld.errors import BadKey, BadShape
from heapmeld.heaps import checked_knots
from heapmeld.knots import MOST_KEYS, are_keys, knots_of, sizes_of


def heap_of(row):
    """The one heap that has this row of unlike keys."""
    if not are_keys(row) or len(set(row)) < len(row):
        raise BadKey("no list of at most 40 unlike keys")
    return heap_over(row)


def heap_over(row):
    """The heap of a row that is known to be one."""
    if not row:
        return ()
    top = min(row)
    at = row.index(top)
    return (heap_over(row[:at]), top, heap_over(row[at + 1:]))


def row_of(heap):
    """The keys of the heap from left to right."""
    checked_knots(heap)
    return row_under(heap)


def row_under(heap):
    """The row of a heap that is known to be one."""
    if not heap:
        return []
    left, key, right = heap
    return row_under(left) + [key] + row_under(right)


def how_many_rows(shape):
    """How many rows of the keys 0, 1, 2 and so on, each once, are rows of heaps of this shape."""
    knots = knots_of(shape, MOST_KEYS)
    if knots is None:
        raise BadShape("no form of a heap of at most 40 knots")
    orders = 1
    share = 1
    for at, size in enumerate(sizes_of(knots)):
        orders *= at + 1
        # Of the keys at a knot and below it, each is the least equally often: one order of size fits.
        share *= size
    return orders // share

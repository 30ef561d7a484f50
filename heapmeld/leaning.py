"""Leaning by ranks: heaps judged, leaned, joined, and taken from."""

from heapmeld.answers import Leaned, Leans, Slants
from heapmeld.errors import BadKey, Empty, NotLeaning
from heapmeld.heaps import checked_both, checked_knots
from heapmeld.knots import are_keys, ranks_of, slants_of, top_of, worth_at


def rank(heap):
    """The rank of the heap: 0 of (), else one more than the lesser rank of both sides."""
    knots = checked_knots(heap)
    return worth_at(ranks_of(knots), top_of(knots))


def judged(heap):
    """Leans if no knot slants, else Slants with the way to one that does."""
    ways = slanting_ways(checked_knots(heap))
    return Slants(ways[0]) if ways else Leans()


def leaned(heap):
    """The heap made leaning by as few exchanges as can be, with the ways to them."""
    ways = slanting_ways(checked_knots(heap))
    return Leaned(leaned_under(heap), ways)


def lean_join(one, other):
    """A leaning heap of all keys of two leaning heaps."""
    first, second = checked_both(one, other)
    check_leaning(first)
    check_leaning(second)
    return joined(one, other)


def lean_take(heap):
    """The least key of a leaning heap, and a leaning heap of the others."""
    check_leaning(checked_knots(heap))
    if not heap:
        raise Empty("no key to take")
    left, key, right = heap
    return (key, joined(left, right))


def lean_of(keys):
    """A leaning heap of the keys."""
    if not are_keys(keys):
        raise BadKey("no list of at most 40 keys")
    heap = ()
    for key in keys:
        heap = joined(heap, ((), key, ()))
    return heap


def check_leaning(knots):
    """NotLeaning if one of the knots slants."""
    if any(slants_of(knots)):
        raise NotLeaning("a knot slants")


def ways_of(knots):
    """The way to each of the knots."""
    ways = [[] for knot in knots]
    for at, (left, key, right) in enumerate(knots):
        # Sides stand behind their knot: its own way is known by now.
        if left is not None:
            ways[left] = ways[at] + ["left"]
        if right is not None:
            ways[right] = ways[at] + ["right"]
    return ways


def slanting_ways(knots):
    """The ways to all knots that slant, in the order of lists."""
    return sorted([way for way, slants in zip(ways_of(knots), slants_of(knots)) if slants])


def leaning_rank(heap):
    """The rank of a heap that leans: its right way has as many knots."""
    many = 0
    while heap:
        many += 1
        heap = heap[2]
    return many


def set_under(key, left, right):
    """Both leaning sides under the key, exchanged only if it would slant."""
    if leaning_rank(right) > leaning_rank(left):
        left, right = right, left
    return (left, key, right)


def leaned_under(heap):
    """The heap, known to be one, with both sides exchanged at all knots that slant."""
    if not heap:
        return ()
    left, key, right = heap
    return set_under(key, leaned_under(left), leaned_under(right))


def joined(one, other):
    """A leaning heap of all keys of two heaps that are known to lean."""
    if not one:
        return other
    if not other:
        return one
    if other[1] < one[1]:
        one, other = other, one
    left, key, right = one
    return set_under(key, left, joined(right, other))

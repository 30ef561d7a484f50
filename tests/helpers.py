"""What several tests need: forms, wrong values, and a plain telling of ranks to compare with."""

import contextlib
import signal

NOT_NUMBERS = [True, False, None, "", "1", b"", b"1", (), (1,), [], [1], {}, {1: 2}, {1}, frozenset(),
               object(), int, len, range(3), 1j, NotImplemented, ...]


class Late(Exception):
    """Something was not told at once."""


@contextlib.contextmanager
def at_once(seconds=5):
    """Fails what would be gone through without an end."""
    def stop(signum, frame):
        raise Late(f"not told within {seconds} seconds")
    before = signal.signal(signal.SIGALRM, stop)
    signal.alarm(seconds)
    try:
        yield
    finally:
        signal.alarm(0)
        signal.signal(signal.SIGALRM, before)


def leaf(key):
    return ((), key, ())


def left_chain(keys):
    """A heap of these rising keys, each on the left side of the one before."""
    heap = ()
    for key in reversed(keys):
        heap = (heap, key, ())
    return heap


def right_chain(keys):
    heap = ()
    for key in reversed(keys):
        heap = ((), key, heap)
    return heap


def zigzag(keys):
    heap = ()
    for at, key in enumerate(reversed(keys)):
        heap = (heap, key, ()) if at % 2 else ((), key, heap)
    return heap


def balanced(many, key=0):
    """A form of so many knots, as flat as can be, with each key greater by 1 than the one above."""
    if many == 0:
        return ()
    below = many - 1
    return (balanced(below - below // 2, key + 1), key, balanced(below // 2, key + 1))


def shared(levels):
    """A full form of very many knots, made of one part for each level."""
    form = ()
    for key in range(levels, 0, -1):
        form = (form, key, form)
    return form


def forms(many):
    """All forms of so many knots, all keys 0."""
    if many == 0:
        return [()]
    return [(left, 0, right)
            for size in range(many)
            for left in forms(size)
            for right in forms(many - 1 - size)]


def form_of(heap):
    return (form_of(heap[0]), 0, form_of(heap[2])) if heap else ()


def keyed(form, keys):
    """The form with the keys put to its knots from the top down, left sides first."""
    keys = iter(keys)

    def fill(part):
        if not part:
            return ()
        key = next(keys)
        left = fill(part[0])
        return (left, key, fill(part[2]))
    return fill(form)


def rank(heap):
    return 1 + min(rank(heap[0]), rank(heap[2])) if heap else 0


def all_ways(heap):
    """The ways to all knots, in the order of lists."""
    if not heap:
        return []
    return ([[]] + [["left"] + way for way in all_ways(heap[0])]
            + [["right"] + way for way in all_ways(heap[2])])


def led(heap, way):
    for step in way:
        heap = heap[0 if step == "left" else 2]
    return heap


def slants(knot):
    return rank(knot[2]) > rank(knot[0])


def slanting_ways(heap):
    return [way for way in all_ways(heap) if slants(led(heap, way))]


def exchanged(heap, ways, here=()):
    """The heap with both sides exchanged at the knots to which the ways lead."""
    if not heap:
        return ()
    left = exchanged(heap[0], ways, here + ("left",))
    right = exchanged(heap[2], ways, here + ("right",))
    return (right, heap[1], left) if list(here) in ways else (left, heap[1], right)

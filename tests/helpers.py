"""What several tests need: forms, wrong values, and a plain telling of ranks to compare with."""

import contextlib
import signal

NOT_NUMBERS = [True, False, None, "", "1", b"", b"1", (), (1,), [], [1], {}, {1: 2}, {1}, frozenset(),
               object(), int, len, range(3), 1j, NotImplemented, ...]


class Late(Exception):
    """Something was not told at once."""


@contextlib.contextmanager
def at_once(seconds=5):
    """Fails what would be gone through without an end."""
    def stop(signum, frame):
        raise Late(f"not told within {seconds} seconds")
    before = signal.signal(signal.SIGALRM, stop)
    signal.alarm(seconds)
    try:
        yield
    finally:
        signal.alarm(0)
        signal.signal(signal.SIGALRM, before)


def refuse(case, kind, asked, *handed):
    """Checks that what is handed in is refused, at once and by this class alone."""
    with at_once(), case.assertRaises(kind) as told:
        asked(*handed)
    case.assertIs(type(told.exception), kind)


def refuse_each(case, kind, asked, many):
    """The same for each of many, asked with one at a time; what is nested deep is told by its place only."""
    for at, handed in enumerate(many):
        with case.subTest(at=at):
            refuse(case, kind, asked, handed)


def nested(levels):
    """A tuple and a list, each around one, and so on, so many levels deep."""
    deep_tuple, deep_list = (), []
    for level in range(levels):
        deep_tuple, deep_list = (deep_tuple,), [deep_list]
    return deep_tuple, deep_list


def leaf(key):
    return ((), key, ())


def left_chain(keys):
    """A heap of these rising keys, each on the left side of the one before."""
    heap = ()
    for key in reversed(keys):
        heap = (heap, key, ())
    return heap


def right_chain(keys):
    heap = ()
    for key in reversed(keys):
        heap = ((), key, heap)
    return heap


def zigzag(keys):
    heap = ()
    for at, key in enumerate(reversed(keys)):
        heap = (heap, key, ()) if at % 2 else ((), key, heap)
    return heap


def balanced(many, key=0):
    """A form of so many knots, as flat as can be, with each key greater by 1 than the one above."""
    if many == 0:
        return ()
    below = many - 1
    return (balanced(below - below // 2, key + 1), key, balanced(below // 2, key + 1))


def shared(levels):
    """A full form of very many knots, made of one part for each level."""
    form = ()
    for key in range(levels, 0, -1):
        form = (form, key, form)
    return form


def alike(levels):
    """Like shared, but with one key at all knots."""
    form = ()
    for level in range(levels):
        form = (form, 0, form)
    return form


def forms(many):
    """All forms of so many knots, all keys 0."""
    if many == 0:
        return [()]
    return [(left, 0, right)
            for size in range(many)
            for left in forms(size)
            for right in forms(many - 1 - size)]


def mixed(many):
    """So many unlike keys in no plain order."""
    return [(at * 17 + 5) % 41 - 20 for at in range(many)]


def form_of(heap):
    return (form_of(heap[0]), 0, form_of(heap[2])) if heap else ()


def keyed(form, keys):
    """The form with the keys put to its knots from the top down, left sides first."""
    keys = iter(keys)

    def fill(part):
        if not part:
            return ()
        key = next(keys)
        left = fill(part[0])
        return (left, key, fill(part[2]))
    return fill(form)


def rank(heap):
    return 1 + min(rank(heap[0]), rank(heap[2])) if heap else 0


def size(heap):
    return size(heap[0]) + size(heap[2]) + 1 if heap else 0


def all_ways(heap):
    """The ways to all knots, in the order of lists."""
    if not heap:
        return []
    return ([[]] + [["left"] + way for way in all_ways(heap[0])]
            + [["right"] + way for way in all_ways(heap[2])])


def led(heap, way):
    for step in way:
        heap = heap[0 if step == "left" else 2]
    return heap


def slants(knot):
    return rank(knot[2]) > rank(knot[0])


def slanting_ways(heap):
    return [way for way in all_ways(heap) if slants(led(heap, way))]


def exchanged(heap, ways, here=()):
    """The heap with both sides exchanged at the knots to which the ways lead."""
    if not heap:
        return ()
    left = exchanged(heap[0], ways, here + ("left",))
    right = exchanged(heap[2], ways, here + ("right",))
    return (right, heap[1], left) if list(here) in ways else (left, heap[1], right)


DEEP_TUPLE, DEEP_LIST = nested(100000)

# What is no form of at most 40 knots, whatever its keys.
WRONG_FORMS = ([value for value in NOT_NUMBERS if value != ()] + [leaf(key) for key in NOT_NUMBERS]
               + [(leaf(key), 0, ()) for key in NOT_NUMBERS] + [((), 0, leaf(key)) for key in NOT_NUMBERS]
               + [0, 1, -1, "()", "heap", [()], {(): ()}, (1, 2), (1, 2, 3), (1, ()), ((), 1), ((), ()), ((),),
                  ((), 1, (), ()), ((), (), 1, ()), (((), 2, (), 3), 1, ()), ((), 1, ((), 2)), (leaf(1), 1, ((), 1)),
                  [(), 1, ()], [[], 1, []], ([], 1, ()), ((), 1, []), ((), 1, None), (leaf(2), 1, [(), 2, ()])]
               + [made(range(many)) for made in (left_chain, right_chain, zigzag)
                  for many in (41, 45, 80, 950, 5000)]
               + [left_chain([0] * 41), right_chain([0] * 41)]
               + [shared(levels) for levels in (6, 60, 1000, 100000)]
               + [(leaf(1), 0, shared(100)), alike(200), balanced(41)]
               + [made for deep in (DEEP_TUPLE, DEEP_LIST)
                  for made in (deep, leaf(deep), (deep, 1, ()), ((), 1, deep))])

# Forms whose keys are no heap's: a side's key is less than its own.
WRONG_ORDERS = [(leaf(0), 1, ()), ((), 1, leaf(0)), (leaf(2), 1, ((), 3, leaf(2))), ((leaf(2), 3, ()), 1, leaf(2)),
                (leaf(-10 ** 400 - 1), -10 ** 400, ()), left_chain(list(range(39)) + [37]),
                right_chain(list(range(39)) + [37])]

WRONG_HEAPS = WRONG_FORMS + WRONG_ORDERS

# What is no list of at most 40 keys.
ROUND = [1]
ROUND.append(ROUND)
WRONG_KEYS = ([value for value in NOT_NUMBERS if value not in ([], [1])]
              + [row for key in NOT_NUMBERS for row in ([key], [5, key], [key, 5, 6])]
              + [0, 1, (1, 2), "12", b"12", {1, 2}, iter([1]), leaf(1), ROUND, [0] * 41, list(range(41)),
                 list(range(100000)), DEEP_LIST, DEEP_TUPLE, [DEEP_TUPLE], [1, DEEP_LIST], left_chain(range(5000))])

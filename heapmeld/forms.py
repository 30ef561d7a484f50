"""Leaning shapes, counted and numbered: by ranks, then by keys on the left, by left sides, by right sides."""

from heapmeld.errors import BadCount, BadNumber
from heapmeld.heaps import checked_knots
from heapmeld.knots import MOST_KEYS, is_number
from heapmeld.leaning import check_leaning


def how_many(keys):
    """How many leaning shapes of so many keys there are."""
    return sum(checked_counts(keys)[keys])


def shape_by(keys, number):
    """The leaning shape of so many keys that has this number."""
    counts = checked_counts(keys)
    if not is_number(number) or not 0 <= number < sum(counts[keys]):
        raise BadNumber("no number of a leaning shape of so many keys")
    return shape_at(counts, keys, number)


def number_of(heap):
    """The number of the leaning heap's shape among those of as many keys."""
    knots = checked_knots(heap)
    check_leaning(knots)
    keys, height, number = placed(counts_to(len(knots)), heap)
    return number


def checked_counts(keys):
    """The counts of shapes up to so many keys, or BadCount."""
    if not is_number(keys) or not 0 <= keys <= MOST_KEYS:
        raise BadCount("no number from 0 to 40")
    return counts_to(keys)


def counts_to(keys):
    """How many leaning shapes there are, by how many keys they have, and then by their ranks."""
    counts = [[1]]
    for many in range(1, keys + 1):
        # A heap of rank r has at least one key less than 2 multiplied r times, so this rank is not reached.
        beyond = (many + 1).bit_length()
        counts.append([0] + [sum(parted(counts, many, height)) for height in range(1, beyond)])
    return counts


def parted(counts, keys, height):
    """How many leaning shapes of so many keys and this rank there are, by the keys of their left sides."""
    return [lefts(counts, few, height) * rights(counts, keys - 1 - few, height) for few in range(keys)]


def lefts(counts, keys, height):
    """How many shapes of so many keys may be the left side in a leaning shape of this rank."""
    return sum(counts[keys][height - 1:])


def rights(counts, keys, height):
    """How many shapes of so many keys may be the right side in a leaning shape of this rank."""
    return sum(counts[keys][height - 1:height])


def first_side(counts, keys, height):
    """The number of the first shape of so many keys that may be a side in one of this rank."""
    return sum(counts[keys][:height - 1])


def found(counts, number):
    """In which of the counted groups, one behind the other, the number is, and which one it is in there."""
    at = 0
    while number >= counts[at]:
        number -= counts[at]
        at += 1
    return (at, number)


def shape_at(counts, keys, number):
    """The leaning shape of a number that is known to be one."""
    if keys == 0:
        return ()
    height, number = found(counts[keys], number)
    few, number = found(parted(counts, keys, height), number)
    more = keys - 1 - few
    left, right = divmod(number, rights(counts, more, height))
    return (shape_at(counts, few, first_side(counts, few, height) + left), 0,
            shape_at(counts, more, first_side(counts, more, height) + right))


def placed(counts, heap):
    """How many keys the leaning heap has, its rank, and the number of its shape."""
    if not heap:
        return (0, 0, 0)
    few, left_height, left = placed(counts, heap[0])
    more, right_height, right = placed(counts, heap[2])
    keys = few + more + 1
    height = right_height + 1
    before = sum(counts[keys][:height]) + sum(parted(counts, keys, height)[:few])
    left -= first_side(counts, few, height)
    right -= first_side(counts, more, height)
    return (keys, height, before + left * rights(counts, more, height) + right)

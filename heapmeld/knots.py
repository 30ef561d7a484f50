"""Forms taken apart into lists of knots, so that no depth and no shared part stops a walk.

A list of knots begins with the top. Each knot is a triple of its left side's place in the list,
its key, and its right side's place; the place of () is None. Sides stand behind their knot.
"""

MOST_KEYS = 40


def is_number(value):
    """Whether the value is a whole number; True and False are none."""
    return isinstance(value, int) and not isinstance(value, bool)


def are_keys(keys):
    """Whether these are a list of keys that may be handed in, unlike or not."""
    return isinstance(keys, list) and len(keys) <= MOST_KEYS and all([is_number(key) for key in keys])


def are_rising(values):
    """Whether each value is greater than the one before it."""
    return all([one < other for one, other in zip(values, values[1:])])


def is_nothing(part):
    """Whether the part is ()."""
    return isinstance(part, tuple) and len(part) == 0


def is_triple(part):
    """Whether the part is a triple around a number, whatever its sides are."""
    return isinstance(part, tuple) and len(part) == 3 and is_number(part[1])


def put_last(parts, part):
    """Puts the part behind the others, and tells its place; () is not put there."""
    if is_nothing(part):
        return None
    parts.append(part)
    return len(parts) - 1


def knots_of(form, most):
    """The knots of a form with its keys in any order; None if it is no form of at most so many knots."""
    parts = []
    knots = []
    put_last(parts, form)
    while len(knots) < len(parts):
        part = parts[len(knots)]
        # Asked at each step: where a part stands again and again, a walk through all would not end.
        if len(parts) > most or not is_triple(part):
            return None
        left, key, right = part
        knots.append((put_last(parts, left), key, put_last(parts, right)))
    return knots


def heap_knots_of(heap, most):
    """The knots of a heap; None if it is no heap of at most so many keys."""
    knots = knots_of(heap, most)
    if knots is None or not are_in_order(knots):
        return None
    return knots


def are_in_order(knots):
    """Whether no side's key is less than its knot's own."""
    for left, key, right in knots:
        for side in (left, right):
            if side is not None and knots[side][1] < key:
                return False
    return True


def worth_at(worths, place):
    """The worth of what stands at the place, 0 of ()."""
    return 0 if place is None else worths[place]


def worths_of(knots, joined):
    """Each knot's worth, joined of the worths of its left side and its right one."""
    worths = [0] * len(knots)
    for at in range(len(knots) - 1, -1, -1):
        left, key, right = knots[at]
        worths[at] = joined(worth_at(worths, left), worth_at(worths, right))
    return worths


def sizes_of(knots):
    """How many keys there are at each knot and below it."""
    return worths_of(knots, lambda left, right: left + right + 1)


def ranks_of(knots):
    """The rank at each knot."""
    return worths_of(knots, lambda left, right: min(left, right) + 1)


def outweighed_of(knots, worths):
    """Of each knot whether its right side is worth more than the left one."""
    return [worth_at(worths, right) > worth_at(worths, left) for left, key, right in knots]


def slants_of(knots):
    """Of each knot whether it slants."""
    return outweighed_of(knots, ranks_of(knots))


def top_of(knots):
    """The place of the top, None of ()."""
    return 0 if knots else None


def place_by(knots, way):
    """The place of the knot to which the way leads, None if there is none or if it is no way."""
    if not isinstance(way, list):
        return None
    place = top_of(knots)
    for step in way:
        if place is None or step not in ("left", "right"):
            return None
        left, key, right = knots[place]
        place = left if step == "left" else right
    return place

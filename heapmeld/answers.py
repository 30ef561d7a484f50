"""Answers on how a heap leans, which can be asked whether a heap bears them out."""

from heapmeld.knots import are_rising, heap_knots_of, place_by, slants_of, top_of

# No refusal is told of shows, so greater heaps than may be handed in elsewhere are judged, too.
# Only a walk through parts that stand in a heap again and again must come to an end.
MOST_JUDGED = 100000


class Answer:
    """What is told of how a heap leans."""


class Leans(Answer):
    """No knot of the heap slants."""

    def shows(self, heap):
        """Whether no knot of the heap slants."""
        knots = heap_knots_of(heap, MOST_JUDGED)
        return knots is not None and not any(slants_of(knots))


class Slants(Answer):
    """A way to a knot that slants."""

    def __init__(self, way):
        self.way = copied(way)

    def shows(self, heap):
        """Whether the way leads to a knot of the heap that slants."""
        knots = heap_knots_of(heap, MOST_JUDGED)
        return knots is not None and slants_by(knots, slants_of(knots), self.way)


class Leaned(Answer):
    """A heap that leans, and the ways to the knots at which sides were exchanged to make it."""

    def __init__(self, heap, ways):
        self.heap = copied(heap)
        self.ways = copied(ways)

    def shows(self, before):
        """Whether the heap leans and was made of the one before by exchanges at the ways."""
        old = heap_knots_of(before, MOST_JUDGED)
        new = heap_knots_of(self.heap, MOST_JUDGED)
        if old is None or new is None:
            return False
        return are_slanting_ways(old, self.ways) and is_made_of(new, old)


def copied(value):
    """The value, where it is a list a copy of it, with copies of the lists within."""
    if not isinstance(value, list):
        return value
    whole = []
    waiting = [(value, whole)]
    while waiting:
        old, new = waiting.pop()
        for part in old:
            if isinstance(part, list):
                inner = []
                waiting.append((part, inner))
                new.append(inner)
            else:
                new.append(part)
    return whole


def slants_by(knots, slants, way):
    """Whether the way leads to a knot, and to one that slants."""
    place = place_by(knots, way)
    return place is not None and slants[place]


def are_slanting_ways(knots, ways):
    """Whether the ways, in order and each once, are those to all knots that slant."""
    slants = slants_of(knots)
    if not isinstance(ways, list) or len(ways) != slants.count(True):
        return False
    return all([slants_by(knots, slants, way) for way in ways]) and are_rising(ways)


def is_made_of(new, old):
    """Whether the new knots are the old ones, with sides exchanged at all that slant.

    Exchanges change no rank, so a heap made so leans, and no other one leans that is made by
    exchanges at knots that slant.
    """
    slants = slants_of(old)
    pairs = [(top_of(new), top_of(old))]
    while pairs:
        here, there = pairs.pop()
        if here is None or there is None:
            if here != there:
                return False
            continue
        left, key, right = new[here]
        first, old_key, second = old[there]
        if key != old_key:
            return False
        if slants[there]:
            first, second = second, first
        pairs += [(left, first), (right, second)]
    return True

"""The refusals, a class for each kind."""


class HeapError(ValueError):
    """What is handed in is refused."""


class BadHeap(HeapError):
    """No heap of at most 40 keys."""


class BadKey(HeapError):
    """No key, or no list of keys as it is asked for."""


class BadShape(HeapError):
    """No form of a heap of at most 40 knots."""


class BadCount(HeapError):
    """No count of keys from 0 to 40."""


class BadNumber(HeapError):
    """No number of a leaning shape of so many keys."""


class BadPile(HeapError):
    """No pile of at most 40 keys."""


class NotLeaning(HeapError):
    """A heap in which a knot slants."""


class Empty(HeapError):
    """Nothing is there from which a key could be taken."""


class TooMany(HeapError):
    """More than 40 keys together."""

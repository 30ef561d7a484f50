"""Piles of trees, like figures in twos: joined, put to, and taken from."""

from heapmeld.errors import BadKey, BadPile, Empty, TooMany
from heapmeld.knots import MOST_KEYS, are_keys, are_rising, is_number


def pile_keys(pile):
    """All keys of the pile, rising."""
    keys = []
    trees = checked_trees(pile)
    while trees:
        key, children = trees.pop()
        keys.append(key)
        trees += children
    return sorted(keys)


def pile_join(one, other):
    """A pile of all keys of both, and how many links there were."""
    trees = checked_trees(one) + checked_trees(other)
    check_room(trees)
    return piled(trees)


def pile_put(pile, key):
    """A pile of all keys and this one, and how many links there were."""
    trees = checked_trees(pile)
    if not is_number(key):
        raise BadKey("no key")
    trees.append((key, []))
    check_room(trees)
    return piled(trees)


def pile_take(pile):
    """The least key of the pile, and a pile of the others."""
    trees = checked_trees(pile)
    if not trees:
        raise Empty("no key to take")
    tops = [key for key, children in trees]
    least, children = trees.pop(tops.index(min(tops)))
    others, links = piled(trees + children)
    return (least, others)


def pile_of(keys):
    """A pile of the keys, and how many links there were."""
    if not are_keys(keys):
        raise BadKey("no list of at most 40 keys")
    return piled([(key, []) for key in keys])


def checked_trees(pile):
    """The trees of a pile that is handed in, with all lists new, or BadPile."""
    if not is_pile(pile):
        raise BadPile("no pile of at most 40 keys")
    return [copied_tree(tree) for tree in pile]


def check_room(trees):
    """TooMany if the trees have more than 40 keys together."""
    if keys_in(trees) > MOST_KEYS:
        raise TooMany("more than 40 keys together")


def order_of(tree):
    """The order of the tree."""
    return len(tree[1])


def keys_in(trees):
    """How many keys the trees have: a tree has twice those of the order before."""
    return sum([1 << order_of(tree) for tree in trees])


def is_pile(pile):
    """Whether this is a pile of at most 40 keys."""
    if not isinstance(pile, list) or not all([is_pair(tree) for tree in pile]):
        return False
    # The count of keys is asked before the trees are gone through: so it bounds how far that goes.
    if not are_rising([order_of(tree) for tree in pile]) or keys_in(pile) > MOST_KEYS:
        return False
    return all([is_tree(tree, order_of(tree)) for tree in pile])


def is_pair(part):
    """Whether the part is a pair of a key and a list of so few parts that they may be its trees."""
    if not isinstance(part, tuple) or len(part) != 2:
        return False
    key, children = part
    return is_number(key) and isinstance(children, list) and len(children) <= MOST_KEYS


def is_tree(part, order):
    """Whether the part is a tree of this order."""
    if not is_pair(part) or order_of(part) != order:
        return False
    key, children = part
    for at, child in enumerate(children):
        if not is_tree(child, order - 1 - at) or child[0] < key:
            return False
    return True


def copied_tree(tree):
    """The tree with all its lists new."""
    key, children = tree
    return (key, [copied_tree(child) for child in children])


def linked(one, other):
    """Two trees of one order as one of the next."""
    if other[0] < one[0]:
        one, other = other, one
    key, children = one
    return (key, [other] + children)


def piled(trees):
    """The pile of the trees, whatever their orders, and how many links there were."""
    places = {}
    links = 0
    for tree in trees:
        links += put_in(places, tree)
    return ([places[order] for order in sorted(places)], links)


def put_in(places, tree):
    """Puts the tree at the place of its order, and tells how many links that took."""
    links = 0
    while order_of(tree) in places:
        tree = linked(places.pop(order_of(tree)), tree)
        links += 1
    places[order_of(tree)] = tree
    return links

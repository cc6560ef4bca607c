"""Quartets: two valleys parted from two others; those of a tree, and the tree that they tell."""

from itertools import combinations

from oncefound.errors import BadQuartet, BadQuartets
from oncefound.trees import check_many, check_tree, partings, tree_of
from oncefound.values import is_lot, is_rising


def is_quartet(many, thing):
    """Whether thing, any value, is a quartet of many valleys."""
    if not isinstance(thing, tuple) or len(thing) != 2:
        return False
    if not all([is_lot(pair, 0, many - 1) and len(pair) == 2 for pair in thing]):
        return False
    return is_rising(thing) and len(set(thing[0] + thing[1])) == 4


def check_quartet(many, quartet):
    """BadQuartet unless it is a quartet of many valleys."""
    if not is_quartet(many, quartet):
        raise BadQuartet("not two pairs of four different valleys, the lesser ones first")


def parts(tree, quartet):
    """Whether some tie of tree parts the first two valleys of quartet from the last two."""
    check_tree(tree)
    check_quartet(len(tree.seats), quartet)
    (one, other), (third, fourth) = quartet
    sides = [[valley in lot for valley in (one, other, third, fourth)] for lot in partings(tree)]
    return [True, True, False, False] in sides or [False, False, True, True] in sides


def quartets(tree):
    """The ascending tuple of all quartets that tree parts."""
    lots = partings(tree)
    valleys = range(len(tree.seats))
    sides = [(list(lot), [valley for valley in valleys if valley not in lot]) for lot in lots]
    return tuple(sorted({
        (min(pair, other), max(pair, other))
        for near, far in sides for pair in combinations(near, 2) for other in combinations(far, 2)
    }))


def are_quartets(many, thing):
    """Whether thing, any value, is an ascending tuple of different quartets that keep the three rules."""
    check_many(many)
    if not isinstance(thing, tuple) or not all([is_quartet(many, quartet) for quartet in thing]):
        return False
    if not is_rising(thing):
        return False
    ways = {way: True for quartet in thing for way in _writings(quartet)}
    # Rules (1) and (3) together imply rule (2).
    return all([_keeps_rules(ways, many, way) for way in list(ways)])


def _writings(quartet):
    """The eight ways to write a quartet, each as a tuple of its four valleys."""
    one, other = quartet
    pairs = [(one, other), (other, one)]
    return [near + far for left, right in pairs for near in (left, left[::-1]) for far in (right, right[::-1])]


def _keeps_rules(ways, many, way):
    """Whether rules (1) and (3) hold for this way to write a quartet; ways has all ways to write all of them."""
    a, b, c, d = way
    if (a, c, b, d) in ways:
        return False
    return all([(a, b, c, e) in ways or (a, e, c, d) in ways for e in range(many) if e not in way])


def tree_of_quartets(many, several):
    """The normal tree that parts just these quartets and has no parting with one valley on a side."""
    if not are_quartets(many, several):
        raise BadQuartets("not ascending quartets that keep the three rules")
    ways = {way: True for quartet in several for way in _writings(quartet)}
    valleys = list(range(1, many))
    # The least parting that has two valleys leaves out just those that are with valley 0 where
    # the two are parted from it; each parting of two or more valleys is the least of some two.
    lots = [_least_lot(ways, many, one, other) for one, other in combinations(valleys, 2)]
    return tree_of(many, tuple(sorted({lot for lot in lots if len(lot) < many - 1})))


def _least_lot(ways, many, one, other):
    """The ascending tuple of the valleys but 0 that are not parted, with 0, from one and other."""
    return tuple([valley for valley in range(1, many) if (one, other, 0, valley) not in ways])

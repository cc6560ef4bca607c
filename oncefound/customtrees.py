"""Custom trees: which customs of a matter came of which, one tie between two customs."""

from itertools import combinations

from oncefound.errors import BadCustomTree
from oncefound.tables import check_full, used
from oncefound.trees import do_cross, steps_to
from oncefound.values import is_lot, is_rising


def custom_trees(table, matter):
    """The ascending list of all custom trees of matter."""
    check_full(table)
    customs = used(table, matter)
    pairs = list(combinations(list(customs), 2))
    return [tree for tree in combinations(pairs, len(customs[1:])) if _do_join(tree, customs)]


def _do_join(pairs, customs):
    """Whether these pairs of customs, one less than there are customs, join all of them."""
    return len(steps_to(pairs, customs[0])) == len(customs)


def is_custom_tree(table, matter, thing):
    """Whether thing, any value, is a custom tree of matter."""
    check_full(table)
    customs = used(table, matter)
    if not isinstance(thing, tuple) or len(thing) != len(customs) - 1:
        return False
    if not all([_is_pair(customs, pair) for pair in thing]):
        return False
    return is_rising(thing) and _do_join(thing, customs)


def _is_pair(customs, thing):
    if not is_lot(thing, customs[0], customs[-1]) or len(thing) != 2:
        return False
    return all([custom in customs for custom in thing])


def pair_partings(table, matter, custom_tree):
    """The tuple of the partings of the pairs of custom_tree, in their order."""
    if not is_custom_tree(table, matter, custom_tree):
        raise BadCustomTree("not a custom tree of the matter")
    return tuple([_pair_parting(table, matter, custom_tree, pair) for pair in custom_tree])


def _pair_parting(table, matter, custom_tree, pair):
    others = [other for other in custom_tree if other != pair]
    near = steps_to(others, table.rows[0][matter])
    return tuple([valley for valley, row in enumerate(table.rows) if row[matter] not in near])


def agree(table, one, first, other, second):
    """Whether no parting of the custom tree first of one crosses one of second of other."""
    lots = pair_partings(table, one, first)
    others = pair_partings(table, other, second)
    return not any([do_cross(lot, another) for lot in lots for another in others])

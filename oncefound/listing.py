"""All trees of few valleys: those that fit, the least of them, what they agree in, and idle matters."""

from itertools import combinations

from oncefound.errors import BadMany, NoFit, TooMany
from oncefound.tables import check_table, having, used
from oncefound.trees import do_cross, tree_of
from oncefound.values import is_between

MOST_LISTED = 5


def check_few(table):
    """BadTable, or TooMany for more valleys than are listed."""
    check_table(table)
    if len(table.rows) > MOST_LISTED:
        raise TooMany(MOST_LISTED)


def all_trees(many):
    """The list of all normal trees of so many valleys, ascending by their partings."""
    if not is_between(many, 1, MOST_LISTED):
        raise BadMany("not a number from 1 to 5")
    return _trees(many, _families(many))


def _trees(many, families):
    return [tree_of(many, family) for family in families]


def _partings(many):
    """The ascending list of all partings that trees of so many valleys have."""
    valleys = list(range(1, many))
    return sorted([lot for size in range(1, many) for lot in combinations(valleys, size)])


def _families(many):
    """The ascending list of the partings of all normal trees: the tuples of which no two cross."""
    found = [()]
    for lot in _partings(many):
        found = found + [family + (lot,) for family in found if not any([do_cross(lot, other) for other in family])]
    return sorted(found)


def _needs(table, matter):
    """For each two used customs of matter the list of the partings between them.

    Two pieces have no place in common exactly if there is a tie between them, so that a tree fits
    exactly if it has a parting of each of these lists.
    """
    lots = _partings(len(table.rows))
    valleys = {custom: having(table, matter, custom) for custom in used(table, matter)}
    pairs = list(combinations(list(valleys), 2))
    return [[lot for lot in lots if _is_between(lot, valleys[one], valleys[other])] for one, other in pairs]


def _is_between(lot, one, other):
    """Whether lot has all of these valleys and none of the others, or the other way about."""
    near = [valley in lot for valley in one]
    far = [valley in lot for valley in other]
    return all(near) and not any(far) or all(far) and not any(near)


def _meets(family, needs):
    return all([any([lot in need for lot in family]) for need in needs])


def _misfits(table):
    """A dict with the list of the matters that do not fit for the partings of each normal tree, ascending."""
    needs = [_needs(table, matter) for matter in range(len(table.kinds))]
    families = _families(len(table.rows))
    return {family: [matter for matter, need in enumerate(needs) if not _meets(family, need)] for family in families}


def _fitting_families(table):
    """The ascending list of the partings of all normal trees that fit; BadTable, TooMany."""
    check_few(table)
    return [family for family, misfits in _misfits(table).items() if misfits == []]


def fitting(table):
    """The list of all normal trees that fit, ascending by their partings."""
    families = _fitting_families(table)
    return _trees(len(table.rows), families)


def least(table):
    """The list of those of fitting(table) that are finer than none of the others."""
    families = _fitting_families(table)
    known = {family: True for family in families}
    # What is finer than a tree that fits, fits: it is enough to leave out one parting.
    lowest = [family for family in families if not any([_without(family, lot) in known for lot in family])]
    return _trees(len(table.rows), lowest)


def _without(family, lot):
    return tuple([other for other in family if other != lot])


def agreed(table):
    """The normal tree of the partings that all of fitting(table) have."""
    families = _fitting_families(table)
    if len(families) == 0:
        raise NoFit("no tree fits the table")
    shared = [lot for lot in families[0] if all([lot in family for family in families])]
    return tree_of(len(table.rows), tuple(shared))


def only(table):
    """The one normal tree that fits; None if none or several fit."""
    families = _fitting_families(table)
    return tree_of(len(table.rows), families[0]) if len(families) == 1 else None


def idle(table):
    """The ascending tuple of the matters without which no more trees fit."""
    check_few(table)
    misfits = list(_misfits(table).values())
    return tuple([matter for matter in range(len(table.kinds)) if [matter] not in misfits])

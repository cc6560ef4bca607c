"""Lots of matters: the least that fit no tree, the greatest that fit one, ways out, and failing lots apart."""

from itertools import combinations

from oncefound.changing import kept
from oncefound.chooser import fitting_tree
from oncefound.pieces import fits
from oncefound.tables import check_table


def _all_lots(table):
    """The list of all lots, those of fewer matters first, then ascending."""
    matters = list(range(len(table.kinds)))
    return [lot for size in range(len(matters) + 1) for lot in combinations(matters, size)]


def _is_part(lot, other):
    """Whether the other lot has all matters of lot."""
    return all([matter in other for matter in lot])


def _listed(lots):
    """The tuple of these lots, those of fewer matters first, then ascending."""
    return tuple(sorted(lots, key=lambda lot: (len(lot), lot)))


def failing_lots(table):
    """The tuple of all lots that do not fit although each lesser part of them does."""
    check_table(table)
    failing = []
    # Parts of lots that are known to fit need no tree of their own.
    known = [()]
    for lot in _all_lots(table):
        if not any([_is_part(lot, other) for other in known]) and not any([_is_part(other, lot) for other in failing]):
            tree = fitting_tree(kept(table, lot))
            if tree is None:
                failing.append(lot)
            else:
                known.append(_fitting_matters(table, tree))
    return tuple(failing)


def _fitting_matters(table, tree):
    """The tuple of the matters that tree fits."""
    matters = range(len(table.kinds))
    return tuple([matter for matter in matters if fits(tree, kept(table, (matter,)))])


def fitting_lots(table):
    """The tuple of all lots that fit although no greater lot with all their matters does."""
    failing = failing_lots(table)
    found = []
    for lot in reversed(_all_lots(table)):
        fails = any([_is_part(other, lot) for other in failing])
        if not fails and not any([_is_part(lot, other) for other in found]):
            found.append(lot)
    return _listed(found)


def ways_out(table):
    """The tuple of all lots without whose matters the rest fits, although not without those of a lesser part."""
    greatest = fitting_lots(table)
    matters = range(len(table.kinds))
    return _listed([tuple([matter for matter in matters if matter not in lot]) for lot in greatest])


def apart_lots(table):
    """As many failing lots as there can be without a matter that two of them have."""
    return _most_apart(failing_lots(table))


def _most_apart(lots):
    most = ()
    for index, lot in enumerate(lots):
        others = [other for other in lots[index + 1:] if not any([matter in lot for matter in other])]
        found = (lot,) + _most_apart(others)
        if len(found) > len(most):
            most = found
    return most

"""Arrows: for each matter of a table, which of its customs came of which."""

from itertools import combinations

from oncefound.customtrees import is_custom_tree, pair_partings
from oncefound.errors import BadArrows, BadFilling, Clash
from oncefound.fillings import is_filling
from oncefound.pieces import check_tree_and_table
from oncefound.tables import check_full
from oncefound.trees import do_cross, partings_of_ties, steps_to, tie_of, tree_of


def _check_arrows(table, arrows):
    """BadTable, Unread, or BadArrows unless arrows are a custom tree for each matter."""
    check_full(table)
    if not isinstance(arrows, tuple) or len(arrows) != len(table.kinds):
        raise BadArrows("not a tuple with a custom tree for each matter")
    for matter, custom_tree in enumerate(arrows):
        if not is_custom_tree(table, matter, custom_tree):
            raise BadArrows("not a custom tree for each matter")


def _partings_of_pairs(table, arrows):
    """A dict with the parting of each (matter, pair) of the arrows, ascending."""
    lots = {}
    for matter, custom_tree in enumerate(arrows):
        for pair, lot in zip(custom_tree, pair_partings(table, matter, custom_tree)):
            lots[(matter, pair)] = lot
    return lots


def arrow_clash(table, arrows):
    """None if no partings of the arrows cross; otherwise the first two (matter, pair) whose partings do."""
    _check_arrows(table, arrows)
    lots = _partings_of_pairs(table, arrows)
    for one, other in combinations(list(lots), 2):
        if do_cross(lots[one], lots[other]):
            return (one, other)
    return None


def arrow_tree(table, arrows):
    """None if there is a clash; otherwise the normal tree of all partings of the arrows."""
    if arrow_clash(table, arrows) is not None:
        return None
    lots = _partings_of_pairs(table, arrows)
    return tree_of(len(table.rows), tuple(sorted(set(list(lots.values())))))


def arrow_filling(table, arrows):
    """The filling of arrow_tree(table, arrows) that follows the arrows."""
    tree = arrow_tree(table, arrows)
    if tree is None:
        raise Clash("two partings of the arrows cross")
    lots = partings_of_ties(tree)
    pairs = _partings_of_pairs(table, arrows)
    step = steps_to(tree.ties, 0)
    rows = {0: table.rows[0]}
    # A place stands in step behind the next one on its way to place 0.
    for place in list(step)[1:]:
        lot = lots[tie_of(place, step[place])]
        changed = {matter: pair for (matter, pair), other in pairs.items() if other == lot}
        rows[place] = _followed(rows[step[place]], changed)
    return tuple([rows[place] for place in sorted(rows)])


def _followed(row, changed):
    """The row beyond a tie: in each matter of changed, a dict of pairs, the other custom of its pair."""
    return tuple([_other_of(changed.get(matter, (cell, cell)), cell) for matter, cell in enumerate(row)])


def _other_of(pair, custom):
    one, other = pair
    return other if custom == one else one


def arrows_of(tree, table, rows):
    """The arrows that rows, a filling of tree for table, follow."""
    check_tree_and_table(tree, table)
    check_full(table)
    if not is_filling(tree, table, rows):
        raise BadFilling("not a filling of the tree for the table")
    return tuple([_pairs_followed(tree, rows, matter) for matter in range(len(table.kinds))])


def _pairs_followed(tree, rows, matter):
    """The ascending tuple of the pairs of customs of matter at the two places of a tie."""
    ends = [(rows[one][matter], rows[other][matter]) for one, other in tree.ties]
    return tuple(sorted({(min(pair), max(pair)) for pair in ends if pair[0] != pair[1]}))

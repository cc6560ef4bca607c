"""Tables with at most three used customs in each matter: three matters that no tree fits, and middle customs."""

from itertools import combinations

from oncefound.changing import kept
from oncefound.chooser import some_fit
from oncefound.customtrees import agree, custom_trees
from oncefound.errors import NotThree
from oncefound.tables import Table, check_full, used

MOST_CUSTOMS = 3
MOST_NEEDED = 3


def check_three(table):
    """BadTable, Unread, or NotThree with the first matter that has more than three used customs."""
    check_full(table)
    for matter in range(len(table.kinds)):
        if len(used(table, matter)) > MOST_CUSTOMS:
            raise NotThree(matter)


def bad_three(table):
    """The first tuple of at most three matters that alone fit no tree, those of fewer first; None if there is none."""
    check_three(table)
    # What fits as a whole fits without some of its matters.
    if some_fit(table):
        return None
    matters = list(range(len(table.kinds)))
    for size in range(1, MOST_NEEDED + 1):
        for lot in combinations(matters, size):
            if not some_fit(kept(table, lot)):
                return lot
    return None


def middle_pairs(table, one, other):
    """The ascending tuple of the pairs of customs in the middle of custom trees of the two matters that agree."""
    check_three(table)
    for matter in (one, other):
        _check_just_three(table, matter)
    firsts = _by_middle(table, one)
    seconds = _by_middle(table, other)
    pairs = [(custom, another) for custom in firsts for another in seconds]
    return tuple([pair for pair in pairs if agree(table, one, firsts[pair[0]], other, seconds[pair[1]])])


def _check_just_three(table, matter):
    """BadMatter unless it is a matter, NotThree unless it has just three used customs."""
    if len(used(table, matter)) != MOST_CUSTOMS:
        raise NotThree(matter)


def _by_middle(table, matter):
    """A dict with the custom tree of a matter of three used customs for each middle custom.

    The customs are ascending, as the custom trees are.
    """
    return {_middle_of(tree): tree for tree in custom_trees(table, matter)}


def _middle_of(custom_tree):
    """The custom that is in both pairs."""
    one, other = custom_tree
    return [custom for custom in one if custom in other][0]


def pairs_example():
    """A table each two of whose three matters fit some tree, while all three fit none."""
    return Table((3, 3, 3), ((1, 0, 0), (2, 1, 1), (0, 1, 1), (0, 2, 0), (2, 0, 1), (2, 1, 2)))

"""The grown trees of few valleys that need the fewest changes more than customs."""

from oncefound.fewest import extra
from oncefound.grown import all_grown
from oncefound.listing import check_few
from oncefound.trees import tree_of


def best(table):
    """The least extra that grown trees have, and the list of all normal grown trees that have it."""
    check_few(table)
    trees = all_grown(tree_of(len(table.rows), ()))
    extras = [extra(tree, table) for tree in trees]
    least = min(extras)
    return (least, [tree for tree, own in zip(trees, extras) if own == least])

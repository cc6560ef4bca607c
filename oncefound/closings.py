"""Closings: ties with which each ring of the web has a tie across, the trees they come from and those they give."""

from oncefound.chooser import fitting_tree
from oncefound.errors import BadClosing, BadFilling
from oncefound.fillings import filling, is_filling
from oncefound.rings import neighbours, numbered, open_ring
from oncefound.tables import check_table
from oncefound.trees import side_without_0, tree_of
from oncefound.values import bits
from oncefound.web import is_more, marks, marks_in, ties_within, web


def is_closing(table, thing):
    """Whether thing, any value, is a closing of table."""
    check_table(table)
    return is_more(table, thing) and open_ring(table, thing) is None


def closing_of(tree, table, rows):
    """The closing that rows, a filling of tree for table, tell: all marks that stand together are tied."""
    if not is_filling(tree, table, rows):
        raise BadFilling("not a filling of the tree for the table")
    return tuple(sorted(set(ties_within(rows)) - set(web(table))))


def closing(table):
    """None if there is none; otherwise a closing that is none any more if ties are left out of it."""
    tree = fitting_tree(table)
    if tree is None:
        return None
    more = closing_of(tree, table, filling(tree, table))
    names = marks(table)
    near = neighbours(names, web(table) + more)
    numbers = numbered(names)
    left = [(numbers[one], numbers[other]) for one, other in more]
    # Where several ties can be left out, there is one that can be left out alone.
    many = len(left) + 1
    while len(left) < many:
        many = len(left)
        left = _needed(near, left)
    return tuple([(names[one], names[other]) for one, other in left])


def _needed(near, ties):
    """The ties left if one by one is left out of them, and of near, where each ring keeps a tie across."""
    left = []
    for one, other in ties:
        # Two marks that are tied with both, and not with one another, make a ring with them.
        if _are_tied(near, near[one] & near[other]):
            near[one] = near[one] - (1 << other)
            near[other] = near[other] - (1 << one)
        else:
            left.append((one, other))
    return left


def _are_tied(near, some):
    """Whether each two of these marks are tied."""
    return all([some & ~near[mark] == 1 << mark for mark in bits(some)])


def tree_of_closing(table, more):
    """A normal tree that fits table, told by the closing more."""
    if not is_closing(table, more):
        raise BadClosing("not a closing of the table")
    names = marks(table)
    bags, rests = _bags(neighbours(names, web(table) + more))
    behind = [[] for _ in bags]
    for valley, row in enumerate(table.rows):
        behind[_first_with(bags, 0, _as_bits(names, row))].append(valley)
    for place, rest in enumerate(rests[:-1]):
        behind[_first_with(bags, place + 1, rest)].extend(list(behind[place]))
    many = len(table.rows)
    lots = [side_without_0(many, valleys) for valleys in behind]
    return tree_of(many, tuple(sorted({lot for lot in lots if lot != ()})))


def _bags(near):
    """Marks that are all tied, one bag for each mark, and for each bag what of it is in later bags.

    The bags are the places of a tree in which the bags of each mark hang together: each bag but
    the last is joined to a later one that has all of it that later ones have.
    """
    bags = []
    rests = []
    left = (1 << len(near)) - 1
    while left > 0:
        # Where each ring has a tie across, some mark has neighbours that are all tied.
        mark = [mark for mark in bits(left) if _are_tied(near, near[mark] & left)][0]
        rests.append(near[mark] & left)
        bags.append(rests[-1] | 1 << mark)
        left = left - (1 << mark)
    return (bags, rests)


def _first_with(bags, start, some):
    """The number of the first bag, from start on, that has all of these marks."""
    return [place for place, bag in enumerate(bags) if place >= start and some & ~bag == 0][0]


def _as_bits(names, row):
    numbers = numbered(names)
    return sum([1 << numbers[mark] for mark in marks_in(row)])

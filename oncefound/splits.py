"""Tables with at most two used customs in each matter: which matters cross, and the least tree."""

from itertools import combinations

from oncefound.errors import NotTwo, TooMany
from oncefound.tables import MOST_MATTERS, Table, check_full, check_matter, used
from oncefound.trees import do_cross, partings, tree_of


def check_two(table):
    """BadTable, Unread, or NotTwo with the first matter that has more than two used customs."""
    check_full(table)
    for matter in range(len(table.kinds)):
        if len(used(table, matter)) > 2:
            raise NotTwo(matter)


def matter_parting(table, matter):
    """The parting of a matter with at most two used customs; () where it has none."""
    own = table.rows[0][matter]
    return tuple([valley for valley, row in enumerate(table.rows) if row[matter] != own])


def do_matters_cross(table, one, other):
    """Whether two matters with at most two used customs cross."""
    return do_cross(matter_parting(table, one), matter_parting(table, other))


def crossed(table):
    """None if no two matters cross; otherwise the first pair of two that do."""
    check_two(table)
    for one, other in combinations(range(len(table.kinds)), 2):
        if do_matters_cross(table, one, other):
            return (one, other)
    return None


def least_tree(table):
    """None if two matters cross; otherwise the normal tree of the different partings of the matters."""
    if crossed(table) is not None:
        return None
    lots = [matter_parting(table, matter) for matter in range(len(table.kinds))]
    return tree_of(len(table.rows), tuple(sorted({lot for lot in lots if lot != ()})))


def four(table, one, other):
    """None if the two matters do not cross; otherwise the least valley for each of the four pairs of customs."""
    check_two(table)
    check_matter(table, one)
    check_matter(table, other)
    if not do_matters_cross(table, one, other):
        return None
    least = {}
    for valley, row in enumerate(table.rows):
        least.setdefault((row[one], row[other]), valley)
    return tuple([least[pair] for pair in sorted(least)])


def table_of(tree):
    """The Table with a matter of two customs for each parting of tree."""
    lots = partings(tree)
    if len(lots) > MOST_MATTERS:
        raise TooMany(MOST_MATTERS)
    valleys = range(len(tree.seats))
    if len(lots) == 0:
        return Table((1,), tuple([(0,) for _ in valleys]))
    rows = [tuple([1 if valley in lot else 0 for lot in lots]) for valley in valleys]
    return Table((2,) * len(lots), tuple(rows))

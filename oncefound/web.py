"""The web of a table: marks, which are used customs, tied where some valley has both."""

from itertools import combinations

from oncefound.errors import BadMore
from oncefound.tables import check_table, is_used, used
from oncefound.values import is_between, is_rising


def marks(table):
    """The ascending tuple of all marks: the pairs (matter, used custom)."""
    check_table(table)
    return tuple([(matter, custom) for matter in range(len(table.kinds)) for custom in used(table, matter)])


def web(table):
    """The ascending tuple of the ties: the pairs of marks that some valley has, the lesser one first."""
    check_table(table)
    return ties_within(table.rows)


def ties_within(rows):
    """The ascending tuple of the pairs of marks that stand together in one of these rows."""
    ties = set()
    for row in rows:
        own = marks_in(row)
        for tie in combinations(own, 2):
            ties.add(tie)
    return tuple(sorted(ties))


def marks_in(row):
    """The ascending list of the marks of the cells of row that are read."""
    return [(matter, cell) for matter, cell in enumerate(row) if cell is not None]


def is_mark(table, thing):
    """Whether thing, any value, is a mark of table."""
    if not isinstance(thing, tuple) or len(thing) != 2:
        return False
    return is_between(thing[0], 0, len(table.kinds) - 1) and is_used(table, thing[0], thing[1])


def _is_legal_tie(table, thing):
    """Whether thing, any value, is a pair of marks of different matters, the lesser one first."""
    if not isinstance(thing, tuple) or len(thing) != 2:
        return False
    return all([is_mark(table, mark) for mark in thing]) and thing[0][0] < thing[1][0]


def is_more(table, thing):
    """Whether thing, any value, is an ascending tuple of different legal ties that are not in the web."""
    if not isinstance(thing, tuple) or not all([_is_legal_tie(table, tie) for tie in thing]):
        return False
    return is_rising(thing) and len(set(thing) & set(web(table))) == 0


def check_more(table, more):
    """BadTable unless table is a Table, BadMore unless more are ties as is_more tells."""
    check_table(table)
    if not is_more(table, more):
        raise BadMore("not ascending legal ties that are not in the web")

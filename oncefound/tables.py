"""Tables: what is known of the customs of some valleys."""

from oncefound.errors import BadCustom, BadKinds, BadMatter, BadRows, BadTable, BadValley, Unread
from oncefound.values import is_between, is_number

MOST_MATTERS = 8
MOST_KIND = 6
MOST_VALLEYS = 12


class Table:
    """A row of customs for each valley, with None where a cell is unread."""

    def __init__(self, kinds, rows):
        if not _are_kinds(kinds):
            raise BadKinds("kinds are a tuple of one to eight numbers from 1 to 6")
        if not _are_rows(kinds, rows):
            raise BadRows("rows are a tuple of one to twelve rows, in which each matter is read")
        self.kinds = kinds
        self.rows = rows

    def __eq__(self, other):
        return isinstance(other, Table) and self.kinds == other.kinds and self.rows == other.rows


def is_kind(thing):
    """Whether thing is a number of customs that a matter can have."""
    return is_between(thing, 1, MOST_KIND)


def _are_kinds(thing):
    if not isinstance(thing, tuple) or not 1 <= len(thing) <= MOST_MATTERS:
        return False
    return all([is_kind(kind) for kind in thing])


def is_cell(kind, thing):
    """Whether thing is a cell of a matter of this kind: one of its customs, or None."""
    return thing is None or is_between(thing, 0, kind - 1)


def _is_row_for(kinds, thing):
    if not isinstance(thing, tuple) or len(thing) != len(kinds):
        return False
    return all([is_cell(kind, cell) for kind, cell in zip(kinds, thing)])


def _are_rows(kinds, thing):
    if not isinstance(thing, tuple) or not 1 <= len(thing) <= MOST_VALLEYS:
        return False
    return all([_is_row_for(kinds, row) for row in thing]) and first_unread(thing) is None


def first_unread(rows):
    """The first matter that is unread in all of these one or more rows; None if there is none."""
    for matter in range(len(rows[0])):
        if all([row[matter] is None for row in rows]):
            return matter
    return None


def check_table(table):
    """BadTable unless table is a Table."""
    if not isinstance(table, Table):
        raise BadTable("not a Table")


def check_matter(table, matter):
    """BadMatter unless matter is the number of a matter of the Table."""
    if not is_between(matter, 0, len(table.kinds) - 1):
        raise BadMatter("not a matter of the table")


def check_valley(table, valley):
    """BadValley unless valley is the number of a valley of the Table."""
    if not is_between(valley, 0, len(table.rows) - 1):
        raise BadValley("not a valley of the table")


def is_row(table, thing):
    """Whether thing, any value, is a row for the kinds of table."""
    check_table(table)
    return _is_row_for(table.kinds, thing)


def is_full(table):
    """Whether no cell of table is unread."""
    check_table(table)
    return all([None not in row for row in table.rows])


def check_full(table):
    """BadTable unless table is a Table, Unread if something is unread."""
    if not is_full(table):
        raise Unread("a cell of the table is unread")


def used(table, matter):
    """The ascending tuple of the customs of matter that some valley has."""
    check_table(table)
    check_matter(table, matter)
    return tuple(sorted({row[matter] for row in table.rows if row[matter] is not None}))


def is_used(table, matter, thing):
    """Whether thing, any value, is a used custom of matter."""
    return is_number(thing) and thing in used(table, matter)


def is_used_row(table, thing):
    """Whether thing, any value, is a row in which nothing is unread and each custom is a used one."""
    if not _is_row_for(table.kinds, thing):
        return False
    return all([is_used(table, matter, cell) for matter, cell in enumerate(thing)])


def having(table, matter, custom):
    """The ascending tuple of the valleys that have this used custom."""
    check_table(table)
    check_matter(table, matter)
    if not is_used(table, matter, custom):
        raise BadCustom("not a used custom of the matter")
    return tuple([valley for valley, row in enumerate(table.rows) if row[matter] == custom])


def sorts(table):
    """The valleys put together that have equal rows: the ascending tuple of the ascending tuples."""
    check_table(table)
    alike = {}
    for valley, row in enumerate(table.rows):
        alike.setdefault(row, []).append(valley)
    return tuple([tuple(valleys) for valleys in alike.values()])

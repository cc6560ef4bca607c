"""New tables out of old ones; what is not said to change stays as it is."""

from oncefound.errors import AllUnread, BadColumn, BadCustom, BadCustoms, BadKind, BadMatters, BadRow, BadValleys
from oncefound.errors import TooMany
from oncefound.tables import MOST_MATTERS, MOST_VALLEYS, Table, check_matter, check_table, check_valley
from oncefound.tables import first_unread, is_cell, is_kind, is_row, is_used
from oncefound.values import are_different, is_lot, is_shuffle


def kept(table, matters):
    """The table of these matters alone."""
    check_table(table)
    if not is_lot(matters, 0, len(table.kinds) - 1):
        raise BadMatters("not an ascending tuple of one or more different matters")
    kinds = tuple([table.kinds[matter] for matter in matters])
    return Table(kinds, tuple([tuple([row[matter] for matter in matters]) for row in table.rows]))


def picked(table, valleys):
    """The table of these valleys, in this sequence."""
    check_table(table)
    if not are_different(valleys, len(table.rows)):
        raise BadValleys("not a tuple of one or more different valleys")
    return _with_rows(table, tuple([table.rows[valley] for valley in valleys]))


def read(table, valley, matter, custom):
    """The table in which this one cell is custom, or unread if custom is None."""
    check_table(table)
    check_valley(table, valley)
    check_matter(table, matter)
    if not is_cell(table.kinds[matter], custom):
        raise BadCustom("neither a custom of the matter nor None")
    row = _with_cell(table.rows[valley], matter, custom)
    return _with_rows(table, _with_cell(table.rows, valley, row))


def _with_cell(cells, index, cell):
    return cells[:index] + (cell,) + cells[index + 1:]


def _with_rows(table, rows):
    """The table with one or more rows in place of its own; AllUnread if a matter is read in none."""
    matter = first_unread(rows)
    if matter is not None:
        raise AllUnread(matter)
    return Table(table.kinds, rows)


def with_row(table, row):
    """The table with this row behind all others."""
    if not is_row(table, row):
        raise BadRow("not a row for the kinds of the table")
    if len(table.rows) == MOST_VALLEYS:
        raise TooMany(MOST_VALLEYS)
    return Table(table.kinds, table.rows + (row,))


def with_matter(table, kind, column):
    """The table with a matter of this kind, with these cells, behind all others."""
    check_table(table)
    if not is_kind(kind):
        raise BadKind("not a number from 1 to 6")
    if not _is_column(len(table.rows), kind, column):
        raise BadColumn("not a cell for each valley, at least one of them read")
    if len(table.kinds) == MOST_MATTERS:
        raise TooMany(MOST_MATTERS)
    rows = tuple([row + (cell,) for row, cell in zip(table.rows, column)])
    return Table(table.kinds + (kind,), rows)


def _is_column(many, kind, thing):
    if not isinstance(thing, tuple) or len(thing) != many:
        return False
    return all([is_cell(kind, cell) for cell in thing]) and any([cell is not None for cell in thing])


def merged(table, matter, one, other):
    """The table in which all valleys with the used custom other have the used custom one instead."""
    check_table(table)
    check_matter(table, matter)
    if not is_used(table, matter, one):
        raise BadCustom("not a used custom of the matter")
    if not is_used(table, matter, other) or other == one:
        raise BadCustom("not another used custom of the matter")
    return Table(table.kinds, tuple([_renamed(row, matter, one, other) for row in table.rows]))


def _renamed(row, matter, one, other):
    return _with_cell(row, matter, one) if row[matter] == other else row


def exchanged(table, matters, valleys, customs):
    """The table with its matters, its valleys and the customs of each matter numbered otherwise."""
    check_table(table)
    if not is_shuffle(matters, len(table.kinds)):
        raise BadMatters("not a tuple of all matters, each once")
    if not is_shuffle(valleys, len(table.rows)):
        raise BadValleys("not a tuple of all valleys, each once")
    if not _are_customs(table.kinds, customs):
        raise BadCustoms("not a tuple with all customs of each matter, each once")
    kinds = tuple([table.kinds[matter] for matter in matters])
    rows = [_exchanged_row(table.rows[valley], matters, customs) for valley in valleys]
    return Table(kinds, tuple(rows))


def _are_customs(kinds, thing):
    if not isinstance(thing, tuple) or len(thing) != len(kinds):
        return False
    return all([is_shuffle(customs, kind) for kind, customs in zip(kinds, thing)])


def _exchanged_row(row, matters, customs):
    return tuple([None if row[matter] is None else customs[matter][row[matter]] for matter in matters])

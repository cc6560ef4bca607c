"""What most of three rows have, the rows that come of it, and the lots of crossing matters."""

from oncefound.errors import BadRow, TooMany
from oncefound.splits import check_two, do_matters_cross, matter_parting
from oncefound.tables import check_valley, is_used_row, used

MOST_ROWS = 64


def majority(table, one, other, third):
    """The row of the customs that at least two of the three valleys have."""
    check_two(table)
    for valley in (one, other, third):
        check_valley(table, valley)
    cells = zip(table.rows[one], table.rows[other], table.rows[third])
    return tuple([first if first in (second, last) else second for first, second, last in cells])


def closure(table):
    """The ascending tuple of the rows that come of the table's own by majorities."""
    check_two(table)
    rows = _closure_rows(table)
    if len(rows) > MOST_ROWS:
        raise TooMany(MOST_ROWS)
    return tuple(rows)


def _closure_rows(table):
    """The ascending list of the rows of the closure, however many.

    They are the rows of used customs each two of which some valley has. They are found matter
    by matter: each start of a row in which each two customs stand together can be gone on with.
    """
    rows = [()]
    for matter in range(len(table.kinds)):
        customs = used(table, matter)
        rows = [row + (custom,) for row in rows for custom in customs if _goes_with(table, row, custom)]
    return rows


def _goes_with(table, start, custom):
    """Whether custom of the matter behind start stands together with each custom of start."""
    return all([_is_had(table, matter, cell, len(start), custom) for matter, cell in enumerate(start)])


def _is_had(table, one, custom, other, another):
    """Whether some valley has custom in the matter one, and another in the matter other."""
    return (custom, another) in [(row[one], row[other]) for row in table.rows]


def _leading(table):
    """The matters that have a parting which no lesser matter has."""
    first = {}
    for matter in range(len(table.kinds)):
        first.setdefault(matter_parting(table, matter), matter)
    return [matter for lot, matter in first.items() if lot != ()]


def crossing_lots(table):
    """The tuple of all lots of leading matters each two of which cross, those of fewer matters first."""
    check_two(table)
    lots = [()]
    for matter in _leading(table):
        lots = lots + [lot + (matter,) for lot in lots if _crosses_all(table, matter, lot)]
    if len(lots) > MOST_ROWS:
        raise TooMany(MOST_ROWS)
    return tuple(sorted(lots, key=lambda lot: (len(lot), lot)))


def _crosses_all(table, matter, lot):
    return all([do_matters_cross(table, matter, other) for other in lot])


def steps_back(table, row):
    """The ascending tuple of the leading matters of row, one of the closure, that can be taken back."""
    check_two(table)
    rows = _closure_rows(table)
    # Equal is not enough: (True,) is equal to (1,).
    if not is_used_row(table, row) or row not in rows:
        raise BadRow("not a row of the closure")
    own = table.rows[0]
    unlike = [matter for matter in _leading(table) if row[matter] != own[matter]]
    return tuple([matter for matter in unlike if _taken_back(table, row, matter) in rows])


def _taken_back(table, row, leading):
    """The row with what valley 0 has in all matters that have the parting of the matter leading."""
    lot = matter_parting(table, leading)
    own = table.rows[0]
    return tuple([own[matter] if matter_parting(table, matter) == lot else cell for matter, cell in enumerate(row)])

"""What unread cells can be: the customs with which some tree fits, and the cells that have no choice."""

from oncefound.changing import read
from oncefound.chooser import fitting_tree, some_fit
from oncefound.errors import NoFit
from oncefound.fillings import customs_by_place
from oncefound.tables import used


def possible(table, valley, matter):
    """The ascending tuple of the customs, used or not, with which in this cell some tree fits table."""
    bare = read(table, valley, matter, None)
    customs = range(table.kinds[matter])
    found = tuple([custom for custom in customs if some_fit(read(bare, valley, matter, custom))])
    # Where some tree fits with the cell unread, its seat has some used custom in a filling.
    if found == ():
        raise NoFit("no tree fits the table with this cell unread")
    return found


def sure_cells(table):
    """The ascending tuple of (valley, matter, custom) for each unread cell with just one used custom possible."""
    tree = fitting_tree(table)
    if tree is None:
        raise NoFit("no tree fits the table")
    columns = [customs_by_place(tree, table, matter) for matter in range(len(table.kinds))]
    found = []
    for valley, row in enumerate(table.rows):
        for matter, cell in enumerate(row):
            customs = columns[matter][tree.seats[valley]]
            if cell is None and len(customs) == 1 and _used_possible(table, valley, matter) == customs:
                found.append((valley, matter, customs[0]))
    return tuple(found)


def _used_possible(table, valley, matter):
    customs = used(table, matter)
    return tuple([custom for custom in possible(table, valley, matter) if custom in customs])

"""What is sure: the quartets and partings that all trees have which fit a table, with papers that show it."""

from oncefound.cases import case_list, is_case_list
from oncefound.changing import with_matter
from oncefound.chooser import fitting_partings, partings_that_fit, some_fit
from oncefound.errors import NoFit
from oncefound.grown import is_clear
from oncefound.quartets import check_quartet, quartets
from oncefound.tables import check_table
from oncefound.trees import tree_of
from oncefound.values import number_of


def _check_table_and_quartet(table, quartet):
    """BadTable or BadQuartet."""
    check_table(table)
    check_quartet(len(table.rows), quartet)


def _rival_columns(many, quartet):
    """The two columns that the rivals of quartet have behind the matters of a table of so many valleys."""
    (one, other), (third, fourth) = quartet
    crossings = [((one, third), (other, fourth)), ((one, fourth), (other, third))]
    return [tuple([_cell(valley, near, far) for valley in range(many)]) for near, far in crossings]


def _cell(valley, near, far):
    if valley in near:
        return 0
    return 1 if valley in far else None


def is_sure(table, quartet):
    """Whether each tree that fits table parts quartet."""
    return against(table, quartet) is None


def against(table, quartet):
    """None if quartet is sure; otherwise a normal tree that fits table and does not part quartet."""
    _check_table_and_quartet(table, quartet)
    many = len(table.rows)
    for column in _rival_columns(many, quartet):
        # The rows of a rival, which may have one matter more than a Table.
        lots = fitting_partings([row + (cell,) for row, cell in zip(table.rows, column)])
        if lots is not None:
            return tree_of(many, lots)
    if not some_fit(table):
        raise NoFit("no tree fits the table")
    return None


def _possible_lots(table):
    """The partings that trees have which fit table, as numbers with a bit for each valley; BadTable, NoFit."""
    check_table(table)
    lots = partings_that_fit(table.rows)
    if lots is None:
        raise NoFit("no tree fits the table")
    return lots


def sure_quartets(table):
    """The ascending tuple of all quartets that are sure for table."""
    lots = _possible_lots(table)
    # A grown tree parts any four valleys in one of three ways, by some of its partings.
    tree = tree_of(len(table.rows), fitting_partings(table.rows))
    return tuple([quartet for quartet in quartets(tree) if not _is_crossed(lots, quartet)])


def _is_crossed(lots, quartet):
    """Whether some of the lots parts the valleys of quartet two and two in another way."""
    (one, other), (third, fourth) = quartet
    pairs = [(one, third), (one, fourth), (other, third), (other, fourth)]
    crossings = [number_of(pair) for pair in pairs]
    whole = number_of((one, other, third, fourth))
    for lot in lots:
        if lot & whole in crossings:
            return True
    return False


def sure_partings(table):
    """The ascending tuple of the partings, two or more valleys on each side, that all trees have which fit table."""
    lots = _possible_lots(table)
    many = len(table.rows)
    own = [lot for lot in fitting_partings(table.rows) if 1 < len(lot) < many - 1]
    # A tree that fits and does not have a parting has a finer one that has one which crosses it.
    return tuple([lot for lot in own if is_clear(number_of(lot), lots)])


def _rivals(table, quartet):
    """The two rivals of quartet; TooMany for a table of eight matters."""
    return [with_matter(table, 2, column) for column in _rival_columns(len(table.rows), quartet)]


def sure_paper(table, quartet):
    """None if quartet is not sure; otherwise a pair of case lists of its rivals, which shows that it is."""
    _check_table_and_quartet(table, quartet)
    rivals = _rivals(table, quartet)
    if not is_sure(table, quartet):
        return None
    one, other = rivals
    return (case_list(one), case_list(other))


def is_sure_paper(table, quartet, thing):
    """Whether thing, any value, is a pair of case lists of the two rivals of quartet."""
    _check_table_and_quartet(table, quartet)
    rivals = _rivals(table, quartet)
    if not isinstance(thing, tuple) or len(thing) != 2:
        return False
    return all([is_case_list(rival, told) for rival, told in zip(rivals, thing)])

"""Fillings: a row for each place of a tree, in which no custom is found twice."""

from oncefound.errors import BadFilling, NoFit
from oncefound.pieces import check_tree_and_table, fits, pieces_of
from oncefound.tables import check_matter, is_used_row, used
from oncefound.trees import check_place, steps_to


def is_filling(tree, table, thing):
    """Whether thing, any value, is a filling of tree for table."""
    check_tree_and_table(tree, table)
    if not _are_rows(tree, table, thing):
        return False
    # A tree without its ties of change is in one part more than these are; each used custom
    # stands in some part, so that none is in two exactly if the parts are as many as the customs.
    least = [len(used(table, matter)) - 1 for matter in range(len(table.kinds))]
    return _changes(tree, thing) == tuple(least)


def _are_rows(tree, table, thing):
    """Whether thing is a tuple of a row of used customs for each place, the seats as table has them."""
    if not isinstance(thing, tuple) or len(thing) != len(tree.ties) + 1:
        return False
    if not all([is_used_row(table, row) for row in thing]):
        return False
    return all([_stands(row, thing[seat]) for row, seat in zip(table.rows, tree.seats)])


def _stands(row, place_row):
    return all([cell is None or cell == custom for cell, custom in zip(row, place_row)])


def _changes(tree, rows):
    matters = range(len(rows[0]))
    return tuple([len([tie for tie in tree.ties if _differ(rows, tie, matter)]) for matter in matters])


def _differ(rows, tie, matter):
    one, other = tie
    return rows[one][matter] != rows[other][matter]


def changes(tree, table, rows):
    """The tuple, matter by matter, of the numbers of ties whose two places differ in it."""
    check_tree_and_table(tree, table)
    if not _are_rows(tree, table, rows):
        raise BadFilling("not a full row of used customs for each place, as the seats have them")
    return _changes(tree, rows)


def _owners(pieces):
    """A dict with the custom of each place that is in one of these pieces, which are apart."""
    return {place: custom for custom, places in pieces.items() for place in places}


def filling(tree, table):
    """A filling of tree for table; None if there is none."""
    if not fits(tree, table):
        return None
    columns = [_column(tree, table, matter) for matter in range(len(table.kinds))]
    places = range(len(tree.ties) + 1)
    return tuple([tuple([column[place] for column in columns]) for place in places])


def _column(tree, table, matter):
    """A dict with a custom for each place: the pieces grow over the ties until all places have one."""
    customs = _owners(pieces_of(tree, table, matter))
    while len(customs) <= len(tree.ties):
        for one, other in tree.ties:
            if one in customs:
                customs.setdefault(other, customs[one])
            elif other in customs:
                customs[one] = customs[other]
    return customs


def choices(tree, table, place, matter):
    """The ascending tuple of the customs of matter that place has in some filling."""
    check_tree_and_table(tree, table)
    check_place(tree, place)
    check_matter(table, matter)
    if not fits(tree, table):
        raise NoFit("the tree does not fit the table")
    return customs_by_place(tree, table, matter)[place]


def customs_by_place(tree, table, matter):
    """A dict with the ascending tuple of the customs that each place has in fillings of tree, which fits."""
    pieces = pieces_of(tree, table, matter)
    owners = _owners(pieces)
    customs = {place: () for place in range(len(tree.ties) + 1)}
    for custom, places in pieces.items():
        for place in _places_near(tree, owners, custom, places[0]):
            customs[place] = customs[place] + (custom,)
    return customs


def _places_near(tree, owners, custom, goal):
    """The places from which a way leads to goal, a place of the piece of custom, through no place of another piece."""
    step = steps_to(tree.ties, goal)
    found = []
    # A place stands in step behind the next one on its way; a way that has reached the piece can stay in it.
    for place, ahead in step.items():
        if owners.get(place, custom) == custom and (place == goal or ahead in found):
            found.append(place)
    return found


def fillings_many(tree, table):
    """How many fillings of tree for table there are."""
    if not fits(tree, table):
        return 0
    many = 1
    for matter in range(len(table.kinds)):
        many = many * _columns_many(tree, _owners(pieces_of(tree, table, matter)))
    return many


def _columns_many(tree, owners):
    """In how many ways ties can be cut so that each part has the places of just one piece, all of them.

    bare and held tell, for each place with all that is behind it, in how many ways ties can be
    cut there so that the place's own part has no place of a piece, or places of one.
    """
    step = steps_to(tree.ties, 0)
    bare = {place: 0 if place in owners else 1 for place in step}
    held = {place: 1 if place in owners else 0 for place in step}
    # A place stands in step behind the next one on its way to place 0.
    for place in reversed(list(step)[1:]):
        ahead = step[place]
        if place in owners and owners.get(ahead, None) == owners[place]:
            held[ahead] = held[ahead] * held[place]
        else:
            either = bare[place] + held[place]
            held[ahead] = held[ahead] * either + bare[ahead] * held[place]
            bare[ahead] = bare[ahead] * either
    return held[0]

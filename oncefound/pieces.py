"""The pieces of customs in a tree, and whether a tree fits a table."""

from itertools import combinations

from oncefound.errors import OtherMany
from oncefound.tables import check_table, having, used
from oncefound.trees import check_tree, steps_to


def check_tree_and_table(tree, table):
    """BadTree, BadTable or OtherMany unless they are a Tree and a Table of equally many valleys."""
    check_tree(tree)
    check_table(table)
    if len(tree.seats) != len(table.rows):
        raise OtherMany("the tree and the table have not equally many valleys")


def piece(tree, table, matter, custom):
    """The ascending tuple of the places between the seats of the valleys with this used custom."""
    check_tree_and_table(tree, table)
    seats = [tree.seats[valley] for valley in having(table, matter, custom)]
    step = steps_to(tree.ties, seats[0])
    # The ways from all seats to the first one cover the ways between any two of them.
    places = set()
    for seat in seats:
        place = seat
        while place not in places:
            places.add(place)
            place = step[place]
    return tuple(sorted(places))


def pieces_of(tree, table, matter):
    """A dict with the piece of each used custom of matter, the customs ascending."""
    return {custom: piece(tree, table, matter, custom) for custom in used(table, matter)}


def fits(tree, table):
    """Whether in each matter no place is in the pieces of two customs."""
    return clash(tree, table) is None


def clash(tree, table):
    """None if tree fits; otherwise the least (matter, one, other, place) of a place in two pieces."""
    check_tree_and_table(tree, table)
    for matter in range(len(table.kinds)):
        places = pieces_of(tree, table, matter)
        for one, other in combinations(list(places), 2):
            shared = [place for place in places[one] if place in places[other]]
            if len(shared) > 0:
                return (matter, one, other, shared[0])
    return None

"""Trees of valleys, told by the partings of their ties."""

from oncefound.errors import BadMany, BadParting, BadPartings, BadPlace, BadSeats, BadTie, BadTies, BadTree
from oncefound.errors import Crosses, OtherMany
from oncefound.tables import MOST_VALLEYS
from oncefound.values import is_between, is_lot, is_rising

MOST_TIES = 21
LEAST_TIES_AT_LOST = 3


class Tree:
    """Places that are joined by ties, and the seat of each valley."""

    def __init__(self, ties, seats):
        if not _are_ties(ties):
            raise BadTies("ties are an ascending tuple of at most 21 pairs that join all places")
        if not _are_seats(ties, seats):
            raise BadSeats("seats are one to twelve places, and each lost place is in three ties")
        self.ties = ties
        self.seats = seats

    def __eq__(self, other):
        return isinstance(other, Tree) and self.ties == other.ties and self.seats == other.seats


def _are_ties(thing):
    if not isinstance(thing, tuple) or len(thing) > MOST_TIES:
        return False
    if not all([is_lot(tie, 0, len(thing)) and len(tie) == 2 for tie in thing]):
        return False
    return is_rising(thing) and len(steps_to(thing, 0)) == len(thing) + 1


def _are_seats(ties, thing):
    if not isinstance(thing, tuple) or not 1 <= len(thing) <= MOST_VALLEYS:
        return False
    if not all([is_between(seat, 0, len(ties)) for seat in thing]):
        return False
    lost = [place for place in range(len(ties) + 1) if place not in thing]
    return all([len(_ties_at(ties, place)) >= LEAST_TIES_AT_LOST for place in lost])


def _ties_at(ties, place):
    return [tie for tie in ties if place in tie]


def steps_to(ties, goal):
    """For each place from which ties lead to goal, the next place on the way there; goal for itself."""
    step = {goal: goal}
    reached = [goal]
    while len(reached) > 0:
        place = reached.pop()
        for one, other in _ties_at(ties, place):
            farther = other if one == place else one
            if farther not in step:
                step[farther] = place
                reached.append(farther)
    return step


def check_tree(tree):
    """BadTree unless tree is a Tree."""
    if not isinstance(tree, Tree):
        raise BadTree("not a Tree")


def check_place(tree, place):
    """BadPlace unless place is the number of a place of the Tree."""
    if not is_between(place, 0, len(tree.ties)):
        raise BadPlace("not a place of the tree")


def check_many(many):
    """BadMany unless there can be so many valleys."""
    if not is_between(many, 1, MOST_VALLEYS):
        raise BadMany("not a number from 1 to 12")


def _check_tie(tree, tie):
    # Equal is not enough: (False, True) is equal to (0, 1).
    if not is_lot(tie, 0, len(tree.ties)) or tie not in tree.ties:
        raise BadTie("not a tie of the tree")


def _check_two_trees(one, other):
    check_tree(one)
    check_tree(other)
    if len(one.seats) != len(other.seats):
        raise OtherMany("the trees have not equally many valleys")


def path(tree, one, other):
    """The tuple of the places from one to other, both with them."""
    check_tree(tree)
    check_place(tree, one)
    check_place(tree, other)
    step = steps_to(tree.ties, other)
    places = [one]
    while places[-1] != other:
        places.append(step[places[-1]])
    return tuple(places)


def middle(tree, one, other, third):
    """The one place that is on the paths between each two of the three places."""
    check_tree(tree)
    for place in (one, other, third):
        check_place(tree, place)
    left = path(tree, one, third)
    right = path(tree, other, third)
    return [place for place in path(tree, one, other) if place in left and place in right][0]


def tie_of(one, other):
    """The tie of two places that are joined: the lesser one first."""
    return (min(one, other), max(one, other))


def partings_of_ties(tree):
    """A dict with the parting of each tie."""
    root = tree.seats[0]
    step = steps_to(tree.ties, root)
    lots = {tie: [] for tie in tree.ties}
    for valley, seat in enumerate(tree.seats):
        place = seat
        while place != root:
            lots[tie_of(place, step[place])].append(valley)
            place = step[place]
    return {tie: tuple(lots[tie]) for tie in tree.ties}


def parting(tree, tie):
    """The ascending tuple of the valleys that tie parts from valley 0."""
    check_tree(tree)
    _check_tie(tree, tie)
    return partings_of_ties(tree)[tie]


def partings(tree):
    """The ascending tuple of the partings of all ties."""
    check_tree(tree)
    lots = partings_of_ties(tree)
    return tuple(sorted(lots.values()))


def alike(one, other):
    """Whether the two trees have the same partings."""
    _check_two_trees(one, other)
    return partings(one) == partings(other)


def do_cross(one, other):
    """Whether some valley is in both partings, some in the first alone and some in the second alone."""
    shared = [valley for valley in one if valley in other]
    return 0 < len(shared) < min(len(one), len(other))


def side_without_0(many, valleys):
    """The ascending tuple of these valleys; of all other ones of so many if 0 is among these."""
    return tuple([valley for valley in range(many) if (valley in valleys) != (0 in valleys)])


def are_partings(many, thing):
    """Whether thing, any value, is an ascending tuple of partings of many valleys no two of which cross."""
    check_many(many)
    if not isinstance(thing, tuple):
        return False
    if not all([is_lot(lot, 1, many - 1) for lot in thing]) or not is_rising(thing):
        return False
    for index, one in enumerate(thing):
        if any([do_cross(one, other) for other in thing[:index]]):
            return False
    return True


def tree_of(many, lots):
    """The normal tree of many valleys with just these partings."""
    if not are_partings(many, lots):
        raise BadPartings("not ascending partings no two of which cross")
    ties = [tie_of(_inmost(lots, lot[0], len(lot)), index + 1) for index, lot in enumerate(lots)]
    seats = [_inmost(lots, valley, 0) for valley in range(many)]
    return Tree(tuple(sorted(ties)), tuple(seats))


def _inmost(lots, valley, size):
    """The normal place of the shortest lot that has valley and is longer than size, or place 0.

    Lots that have a valley in common and do not cross lie one within the other: the shortest
    of those that are longer than a lot with this valley is the one next around it.
    """
    around = [(len(lot), index + 1) for index, lot in enumerate(lots) if valley in lot and len(lot) > size]
    return min(around, default=(0, 0))[1]


def normal(tree):
    """The normal tree that is alike to tree."""
    check_tree(tree)
    return tree_of(len(tree.seats), partings(tree))


def joined(tree, tie):
    """The normal tree of all partings but that of tie: its two places become one."""
    gone = parting(tree, tie)
    return tree_of(len(tree.seats), tuple([lot for lot in partings(tree) if lot != gone]))


def added(tree, lot):
    """The normal tree that has lot as a parting, too."""
    lots = partings(tree)
    if not is_lot(lot, 1, len(tree.seats) - 1) or lot in lots:
        raise BadParting("not a parting that the tree has not yet")
    for other in lots:
        if do_cross(lot, other):
            raise Crosses(other)
    return tree_of(len(tree.seats), tuple(sorted(lots + (lot,))))


def finer(one, other):
    """Whether one has all partings of other."""
    _check_two_trees(one, other)
    lots = partings(one)
    return all([lot in lots for lot in partings(other)])


def common(one, other):
    """The normal tree of the partings that both have."""
    _check_two_trees(one, other)
    lots = partings(other)
    return tree_of(len(one.seats), tuple([lot for lot in partings(one) if lot in lots]))

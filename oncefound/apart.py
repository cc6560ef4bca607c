"""Paths between the valleys of two customs that have no tie in common: as many as there must be changes."""

from oncefound.errors import NotTwo
from oncefound.fewest import customs_allowed
from oncefound.pieces import check_tree_and_table
from oncefound.rings import ties_along
from oncefound.tables import having, used
from oncefound.trees import path, steps_to
from oncefound.values import is_between


def _ends(tree, table, matter):
    """The seats of the valleys with the lesser used custom, and of those with the greater one, if there is one."""
    check_tree_and_table(tree, table)
    customs = used(table, matter)
    if len(customs) > 2:
        raise NotTwo(matter)
    customs_allowed(tree, table, matter)
    seats = [[tree.seats[valley] for valley in having(table, matter, custom)] for custom in customs]
    return (seats[0], seats[1] if len(customs) == 2 else [])


def are_apart(tree, table, matter, thing):
    """Whether thing, any value, is a tuple of paths from one custom to the other without a tie in common."""
    starts, goals = _ends(tree, table, matter)
    if not isinstance(thing, tuple) or not all([_is_path(tree, starts, goals, way) for way in thing]):
        return False
    ties = [tie for way in thing for tie in ties_along(way)]
    return len(set(ties)) == len(ties)


def _is_path(tree, starts, goals, thing):
    """Whether thing, any value, is the path from one of these starts to one of these goals."""
    if not isinstance(thing, tuple) or len(thing) == 0:
        return False
    if not all([is_between(place, 0, len(tree.ties)) for place in thing]):
        return False
    return thing[0] in starts and thing[-1] in goals and thing == path(tree, thing[0], thing[-1])


def apart_paths(tree, table, matter):
    """As many paths apart as the matter has changes at least."""
    starts, goals = _ends(tree, table, matter)
    step = steps_to(tree.ties, 0)
    # Of the ends that no path has joined yet one can go on to the next place, since a tie is in one path.
    lows = {place: [] for place in step}
    highs = {place: [] for place in step}
    found = []
    for place in reversed(list(step)):
        near, far = lows[place], highs[place]
        if place in starts:
            near = [place] * (len(far) + 1)
        elif place in goals:
            far = [place] * (len(near) + 1)
        found.extend([path(tree, one, other) for one, other in zip(near, far)])
        if place != 0:
            lows[step[place]].extend(near[len(far):][:1])
            highs[step[place]].extend(far[len(near):][:1])
    return tuple(found)

"""Chains of demands on the customs in the middle of custom trees, which show that no tree fits."""

from oncefound.tables import having, is_used, used
from oncefound.threes import check_three
from oncefound.trees import do_cross, side_without_0
from oncefound.values import is_between

OUTER = "outer"
MIDDLE = "middle"


def chain(table):
    """None if some tree fits; otherwise a chain: demands that lead from an outer custom to the middle and back."""
    check_three(table)
    made = _made(table)
    for matter, custom, word in made:
        if word == OUTER:
            there = _way(made, (matter, custom, OUTER), (matter, custom, MIDDLE))
            back = _way(made, (matter, custom, MIDDLE), (matter, custom, OUTER))
            if there is not None and back is not None:
                return (there, back)
    return None


def _demands(table):
    """The list of all demands, ascending but for their words."""
    found = []
    for matter in range(len(table.kinds)):
        customs = used(table, matter)
        if len(customs) > 1:
            found.extend([(matter, custom, word) for custom in customs for word in (OUTER, MIDDLE)])
    return found


def _made(table):
    """A dict with the list of the demands that each demand makes."""
    demands = _demands(table)
    return {demand: [other for other in demands if _does_make(table, demand, other)] for demand in demands}


def _does_make(table, demand, other):
    """Whether the one demand makes the other one."""
    matter, custom, word = demand
    another, there, made = other
    if word == OUTER and made == MIDDLE and matter != another:
        return do_cross(_lone_parting(table, matter, custom), _lone_parting(table, another, there))
    if word == MIDDLE and made == OUTER and matter == another:
        return custom != there or len(used(table, matter)) == 2
    return False


def _lone_parting(table, matter, custom):
    """The parting between the valleys that have the custom and those that have it not."""
    return side_without_0(len(table.rows), having(table, matter, custom))


def _way(made, start, goal):
    """A shortest tuple of demands from start to goal, each of which makes the next one; None if there is none."""
    ahead = {start: start}
    reached = [start]
    while goal not in ahead and len(reached) > 0:
        news = {}
        for demand in reached:
            news.update({other: demand for other in made[demand] if other not in ahead})
        ahead.update(news)
        reached = list(news)
    if goal not in ahead:
        return None
    way = [goal]
    while way[-1] != start:
        way.append(ahead[way[-1]])
    return tuple(way[::-1])


def is_chain(table, thing):
    """Whether thing, any value, is a chain of table."""
    check_three(table)
    if not isinstance(thing, tuple) or len(thing) != 2:
        return False
    if not all([_are_linked(table, demands) for demands in thing]):
        return False
    there, back = thing
    matter, custom, _ = there[0]
    ends = [(matter, custom, OUTER), (matter, custom, MIDDLE)]
    return [there[0], there[-1]] == ends and [back[-1], back[0]] == ends


def _are_linked(table, thing):
    """Whether thing is a tuple of two or more demands, each of which makes the next one."""
    if not isinstance(thing, tuple) or len(thing) < 2 or not all([_is_demand(table, demand) for demand in thing]):
        return False
    return all([_does_make(table, demand, other) for demand, other in zip(thing, thing[1:])])


def _is_demand(table, thing):
    """Whether thing, any value, is a demand of table."""
    if not isinstance(thing, tuple) or len(thing) != 3:
        return False
    matter, custom, word = thing
    if not is_between(matter, 0, len(table.kinds) - 1) or not is_used(table, matter, custom):
        return False
    return len(used(table, matter)) > 1 and word in (OUTER, MIDDLE)

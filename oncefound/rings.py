"""Rings of the web with more ties, and whether they have ties across.

Where marks are told by numbers here, it is by their places among all marks, several by the bits of one number.
"""

from oncefound.trees import tie_of
from oncefound.values import bits
from oncefound.web import check_more, is_mark, marks, web

SHORTEST = 4


def is_ring(table, more, thing):
    """Whether thing, any value, is a ring of the web and more; it may have ties across."""
    check_more(table, more)
    return is_ring_of(table, web(table) + more, thing)


def is_ring_of(table, ties, thing):
    """Whether thing, any value, is a ring of these ties, which are the keys of a dict or a tuple."""
    if not isinstance(thing, tuple) or len(thing) < SHORTEST:
        return False
    if not all([is_mark(table, mark) for mark in thing]) or len(set(thing)) != len(thing):
        return False
    return all([tie in ties for tie in ring_ties(thing)])


def ring_ties(ring):
    """The ties of a ring, of marks or of their numbers: each with the next one, the last with the first."""
    return [tie_of(one, other) for one, other in zip(ring, ring[1:] + ring[:1])]


def ties_along(way):
    """The ties of a way, of marks, of their numbers or of places: each with the next one."""
    return [tie_of(one, other) for one, other in zip(way, way[1:])]


def pairs_across(ring):
    """The ascending list of the pairs in a ring, of marks or of their numbers, that do not follow one another."""
    last = len(ring) - 1
    places = [(one, other) for one in range(last) for other in range(one + 2, last + 1) if other - one < last]
    return sorted([tie_of(ring[one], ring[other]) for one, other in places])


def open_ring(table, more):
    """None if each ring of the web and more has a tie across; otherwise a ring without one."""
    check_more(table, more)
    names = marks(table)
    near = neighbours(names, web(table) + more)
    for ring in open_rings(near):
        return tuple([names[mark] for mark in ring])
    return None


def numbered(names):
    """A dict with the number of each of the marks names, in their order."""
    return {name: mark for mark, name in enumerate(names)}


def neighbours(names, ties):
    """For each of the marks names, by its number, a number with a bit for each mark that it is tied with."""
    numbers = numbered(names)
    near = [0] * len(names)
    for one, other in ties:
        near[numbers[one]] = near[numbers[one]] | 1 << numbers[other]
        near[numbers[other]] = near[numbers[other]] | 1 << numbers[one]
    return near


def open_rings(near):
    """Rings without a tie across, as lists of marks; there is none only if each ring has a tie across.

    For each mark, and each two of its neighbours that are not tied but hang together by marks
    that are not its neighbours: a shortest ring of this kind.
    """
    for mark, around in enumerate(near):
        for part in _parts(near, (1 << len(near)) - 1 - (around | 1 << mark)):
            rim = _reached(near, part) & around
            for one in bits(rim):
                for other in bits(rim & ~near[one] & ((1 << one) - 1)):
                    yield [mark, one] + _way(near, part, one, other) + [other]


def _reached(near, some):
    """The marks that are tied with some of these."""
    found = 0
    for mark in bits(some):
        found = found | near[mark]
    return found


def _parts(near, some):
    """The parts into which these marks fall, of which each hangs together."""
    found = []
    while some > 0:
        part = 0
        grown = some & -some
        while grown != part:
            part = grown
            grown = part | _reached(near, part) & some
        found.append(part)
        some = some - part
    return found


def _way(near, part, one, other):
    """The marks of a shortest way from one to other through part, both ends left out."""
    layers = [near[other] & part]
    left = part - layers[0]
    while layers[-1] & near[one] == 0:
        layers.append(_reached(near, layers[-1]) & left)
        left = left - layers[-1]
    way = []
    goal = near[one]
    for layer in reversed(layers):
        way.append(bits(layer & goal)[0])
        goal = near[way[-1]]
    return way

"""The words of the document, taken one by one and without thrift: second ways to what the package tells."""

import functools
import itertools

from oncefound.trees import Tree, tree_of


def grown_twelve():
    """A tree with as many ties as there can be: the partings (1,) .. (11,) and the tails of 1 .. 11."""
    tails = [tuple(range(first, 12)) for first in range(1, 11)]
    return tree_of(12, tuple(sorted(tails + [(valley,) for valley in range(1, 12)])))


def reached(ties, start):
    """All places to which these ties lead from start."""
    found = {start}
    for _ in ties:
        found |= {place for tie in ties if found & set(tie) for place in tie}
    return found


def far_side(tree, tie, start):
    """The places that tie parts from start."""
    rest = [other for other in tree.ties if other != tie]
    return set(range(len(tree.ties) + 1)) - reached(rest, start)


def parted(tree, tie):
    """The parting of tie as the words say it."""
    far = far_side(tree, tie, tree.seats[0])
    return tuple(valley for valley, seat in enumerate(tree.seats) if seat in far)


def cross(one, other):
    return bool(set(one) & set(other) and set(one) - set(other) and set(other) - set(one))


def lots_of(many):
    """All partings that so many valleys can have, ascending."""
    valleys = range(1, many)
    return sorted(lot for size in range(1, many) for lot in itertools.combinations(valleys, size))


def families(many):
    """All ascending tuples of partings no two of which cross."""
    found = [()]
    for lot in lots_of(many):
        found += [family + (lot,) for family in found if not any(cross(lot, other) for other in family)]
    return found


def renumbered(tree, numbers):
    """The tree whose place numbers[p] is place p of tree."""
    ties = sorted(tuple(sorted((numbers[one], numbers[other]))) for one, other in tree.ties)
    return Tree(tuple(ties), tuple(numbers[seat] for seat in tree.seats))


@functools.cache
def normal_trees(many):
    """All normal trees of so many valleys."""
    return tuple(tree_of(many, tuple(sorted(lots))) for lots in families(many))


def way(tree, one, other):
    """The places from one to other."""
    def search(places):
        if places[-1] == other:
            return places
        for tie in tree.ties:
            for near, far in (tie, tie[::-1]):
                if near == places[-1] and far not in places:
                    found = search(places + [far])
                    if found:
                        return found
        return None
    return search([one])


def used_customs(table, matter):
    return sorted({row[matter] for row in table.rows} - {None})


def places_of(tree, table, matter, custom):
    """The piece of a custom: the places on the ways between any two seats of valleys that have it."""
    seats = [tree.seats[valley] for valley, row in enumerate(table.rows) if row[matter] == custom]
    return {place for one in seats for other in seats for place in way(tree, one, other)}


def clashes(tree, table):
    """All (matter, one, other, place) with a place that is in the pieces of two customs."""
    found = []
    for matter in range(len(table.kinds)):
        for one, other in itertools.combinations(used_customs(table, matter), 2):
            shared = places_of(tree, table, matter, one) & places_of(tree, table, matter, other)
            found += [(matter, one, other, place) for place in shared]
    return sorted(found)


def stand_so(tree, table, matter, column):
    """Whether column has for each valley whose cell of matter is read this cell at the seat."""
    cells = [row[matter] for row in table.rows]
    return all(cell in (None, column[seat]) for cell, seat in zip(cells, tree.seats))


def ways_in(tree):
    """For each two places the places from one to the other."""
    return [way(tree, *ends) for ends in itertools.combinations(range(len(tree.ties) + 1), 2)]


def hang_together(ways, column):
    """Whether any two places with the same custom have it at each place between them as well."""
    alike = [places for places in ways if column[places[0]] == column[places[-1]]]
    return all(len({column[place] for place in places}) == 1 for places in alike)


def loose_columns(tree, table, matter):
    """All ways to give each place a used custom of matter as the seats have them."""
    customs = used_customs(table, matter)
    columns = itertools.product(customs, repeat=len(tree.ties) + 1)
    return [column for column in columns if stand_so(tree, table, matter, column)]


def columns_of(tree, table, matter):
    """All ways to give each place a custom of matter that fillings have."""
    ways = ways_in(tree)
    return [column for column in loose_columns(tree, table, matter) if hang_together(ways, column)]


def most(one, other, third):
    """The majority of three rows of at most two customs in each matter."""
    return tuple(max(cells, key=cells.count) for cells in zip(one, other, third))


def closed(rows, limit=None):
    """All rows that come of these by majorities; or some, more than limit, if there are more."""
    lows, highs = ([end(cells) for cells in zip(*rows)] for end in (min, max))
    # A row as a number, with a bit for each matter: 1 for the greater custom.
    found = {sum((cell > low) << at for at, (cell, low) in enumerate(zip(row, lows))) for row in rows}
    news = set(found)
    while news and (limit is None or len(found) <= limit):
        pairs = list(itertools.combinations(found, 2))
        made = {(one & other) | (one & new) | (other & new) for new in news for one, other in pairs}
        news = made - found
        found |= news
    ends = list(zip(lows, highs))
    return {tuple(pair[bits >> at & 1] for at, pair in enumerate(ends)) for bits in found}


def split_of(table, matter):
    """The valleys that have not what valley 0 has in the matter."""
    return {valley for valley, row in enumerate(table.rows) if row[matter] != table.rows[0][matter]}


def joins(pairs, things):
    """Whether these pairs join all of things."""
    found = set(things[:1])
    for _ in pairs:
        found |= {end for pair in pairs if found & set(pair) for end in pair}
    return found == set(things)


def trees_of_customs(table, matter):
    """All custom trees of a matter, ascending."""
    customs = used_customs(table, matter)
    pairs = list(itertools.combinations(customs, 2))
    return [tree for tree in itertools.combinations(pairs, len(customs) - 1) if joins(tree, customs)]


def partings_of_pairs(table, matter, pairs):
    """The parting of each pair: the valleys whose custom it parts from that of valley 0."""
    lots = []
    for pair in pairs:
        others = [other for other in pairs if other != pair]
        near = reached(others, table.rows[0][matter])
        lots.append(tuple(valley for valley, row in enumerate(table.rows) if row[matter] not in near))
    return lots


def agreeing(table, one, other, first, second):
    """Whether no parting of a pair of first crosses one of second."""
    lots = partings_of_pairs(table, one, first)
    return not any(cross(lot, another) for lot in lots for another in partings_of_pairs(table, other, second))


def arrows_of_table(table):
    """All ways to choose a custom tree for each matter."""
    return itertools.product(*[trees_of_customs(table, matter) for matter in range(len(table.kinds))])


def clashing_pairs(table, arrows):
    """All ((matter, pair), (matter, pair)) of two pairs of the arrows whose partings cross, ascending."""
    lots = []
    for matter, pairs in enumerate(arrows):
        lots += [((matter, pair), lot) for pair, lot in zip(pairs, partings_of_pairs(table, matter, pairs))]
    return [(one, other) for (one, lot), (other, another) in itertools.combinations(sorted(lots), 2)
            if cross(lot, another)]


def arrows_without_clash(table):
    """All arrows each two custom trees of which agree, ascending."""
    matters = range(len(table.kinds))
    choices = [trees_of_customs(table, matter) for matter in matters]
    agreed = {}
    for one, other in itertools.combinations(matters, 2):
        for first, second in itertools.product(choices[one], choices[other]):
            agreed[one, first, other, second] = agreeing(table, one, other, first, second)
    pairs = list(itertools.combinations(matters, 2))
    return [arrows for arrows in itertools.product(*choices)
            if all(agreed[one, arrows[one], other, arrows[other]] for one, other in pairs)]


def marks_of(table):
    return [(matter, custom) for matter in range(len(table.kinds)) for custom in used_customs(table, matter)]


def had_together(table):
    """The ties of the web: two marks of different matters that some valley has."""
    pairs = itertools.combinations(marks_of(table), 2)
    return [(one, other) for one, other in pairs
            if one[0] != other[0] and any(row[one[0]] == one[1] and row[other[0]] == other[1] for row in table.rows)]


def legal_ties(table):
    """All pairs of marks of different matters that are not in the web."""
    pairs = itertools.combinations(marks_of(table), 2)
    return [pair for pair in pairs if pair[0][0] != pair[1][0] and pair not in had_together(table)]


def all_rings(ties):
    """All rings of four or more things that these ties make, each once."""
    near = {}
    for one, other in ties:
        near.setdefault(one, set()).add(other)
        near.setdefault(other, set()).add(one)
    found = []

    def go_on(ring):
        for thing in near[ring[-1]]:
            if thing == ring[0] and len(ring) > 3 and ring[1] < ring[-1]:
                found.append(tuple(ring))
            elif thing > ring[0] and thing not in ring:
                go_on(ring + [thing])
    for start in near:
        go_on([start])
    return found


def across(ring):
    """The pairs of things of the ring that do not follow one another in it, the lesser one first."""
    last = len(ring) - 1
    places = itertools.combinations(range(len(ring)), 2)
    return [tuple(sorted((ring[one], ring[other]))) for one, other in places
            if other - one > 1 and (one, other) != (0, last)]


def open_ones(ties):
    """All rings of these ties without a tie across."""
    return [ring for ring in all_rings(ties) if not set(across(ring)) & set(ties)]

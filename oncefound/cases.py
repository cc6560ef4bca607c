"""Case lists, which show that no tree fits: rings, and for each tie that can go across one the case that goes on."""

from oncefound.changing import kept
from oncefound.chooser import some_fit
from oncefound.rings import is_ring_of, neighbours, open_rings, pairs_across, ring_ties
from oncefound.tables import check_table
from oncefound.values import is_number
from oncefound.web import is_mark, marks, web


def case_list(table):
    """A case list of table; None if some tree fits."""
    if some_fit(table):
        return None
    lot = _least_failing(table)
    few = kept(table, lot)
    # A list of the kept table, its matters numbered as in the table, is one of the table.
    names = [(lot[matter], custom) for matter, custom in marks(few)]
    return _entries(names, _case(names, neighbours(marks(few), web(few))))


def _least_failing(table):
    """Matters such that no tree fits the table of them, but some tree does without any one of them."""
    lot = tuple(range(len(table.kinds)))
    for matter in range(len(table.kinds)):
        less = tuple([other for other in lot if other != matter])
        if not some_fit(kept(table, less)):
            lot = less
    return lot


def _case(names, near):
    """A triple (ring, branches, ties) that shows that the ties of near cannot be closed.

    A branch is a triple (one, other, case), its case that with this tie more. ties is a dict of
    the ties of all these rings but those that came with a branch. Marks are told by their
    numbers among names.
    """
    ring, pairs = _narrowest(names, near)
    ties = {tie: True for tie in ring_ties(ring)}
    branches = []
    for one, other in pairs:
        case = _case(names, _with_tie(near, one, other))
        if (one, other) not in case[2]:
            # Its rings do not need this tie, so that they stand here as well.
            return case
        branches.append((one, other, case))
        ties.update({tie: True for tie in case[2] if tie != (one, other)})
    return (ring, branches, ties)


def _narrowest(names, near):
    """A ring without a tie across, of those that are found one with the fewest legal pairs across, and these pairs."""
    narrowest = None
    fewest = None
    for ring in open_rings(near):
        pairs = [pair for pair in pairs_across(ring) if _is_legal(names[pair[0]], names[pair[1]])]
        if fewest is None or len(pairs) < len(fewest):
            narrowest, fewest = ring, pairs
        if len(pairs) == 0:
            break
    return (narrowest, fewest)


def _is_legal(one, other):
    return one[0] != other[0]


def _with_tie(near, one, other):
    """near with one tie more."""
    more = list(near)
    more[one] = more[one] | 1 << other
    more[other] = more[other] | 1 << one
    return more


def _entries(names, case):
    """The case and all behind it as the entries of a case list, of marks by names."""
    cases = [case]
    entries = []
    while len(entries) < len(cases):
        ring, branches, _ = cases[len(entries)]
        told = []
        for one, other, later in branches:
            told.append((names[one], names[other], len(cases)))
            cases.append(later)
        entries.append((tuple([names[mark] for mark in ring]), tuple(told)))
    return tuple(entries)


def is_case_list(table, thing):
    """Whether thing, any value, is a case list of table."""
    check_table(table)
    if not isinstance(thing, tuple) or len(thing) == 0:
        return False
    tied = web(table)
    ways = {0: ()}
    for index, entry in enumerate(thing):
        if index not in ways or not _is_entry(table, {tie: True for tie in tied + ways[index]}, entry):
            return False
        for one, other, later in entry[1]:
            if not index < later < len(thing) or later in ways:
                return False
            ways[later] = ways[index] + ((one, other),)
    return True


def _is_entry(table, ties, thing):
    """Whether thing is an entry where these are the ties of the web and of its way, but for the numbers it tells."""
    if not isinstance(thing, tuple) or len(thing) != 2:
        return False
    ring, branches = thing
    if not is_ring_of(table, ties, ring) or not isinstance(branches, tuple):
        return False
    pairs = pairs_across(ring)
    if any([pair in ties for pair in pairs]):
        return False
    legal = [(one, other) for one, other in pairs if _is_legal(one, other)]
    if len(branches) != len(legal):
        return False
    return all([_is_branch(table, pair, branch) for pair, branch in zip(legal, branches)])


def _is_branch(table, pair, thing):
    """Whether thing is a triple of this pair of marks and a number."""
    if not isinstance(thing, tuple) or len(thing) != 3 or thing[:2] != pair:
        return False
    # Equal is not enough: (True, False) is equal to (1, 0).
    return is_mark(table, thing[0]) and is_mark(table, thing[1]) and is_number(thing[2])

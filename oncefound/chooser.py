"""Whether some tree fits a table: a tree, arrows without a clash, or a list of choices that all clash."""

from oncefound.customtrees import custom_trees, is_custom_tree, pair_partings
from oncefound.errors import TooMany
from oncefound.tables import check_full, check_table
from oncefound.trees import do_cross, side_without_0, tree_of
from oncefound.values import bits, is_between, is_number, number_of

MOST_ARROWS = 5000
# The marks of a row are bits of a number: eight for each matter, of which customs need six at most.
BITS = 8
ALL_OF_ONE = 0xFF
# For nine matters, since a rival of a quartet has one more than a table may have.
FIRST_OF_EACH = 0x010101010101010101
LAST_OF_EACH = 0x808080808080808080
# Of three valleys a lost place can have what two of them have in each matter.
NEVER_APART = 3


def some_fit(table):
    """Whether some tree fits table, unread cells or not."""
    check_table(table)
    return do_fit(marks_of_rows(table.rows))


def do_fit(sets):
    """Whether some tree fits valleys that have these marks, told as in marks_of_rows."""
    leading, _ = _leaders(sets)
    if len(leading) <= NEVER_APART:
        return True
    are_open = _open_lots([sets[valley] for valley in leading])
    return _halves(are_open, {}, len(are_open) - 1) is not None


def fitting_tree(table):
    """A normal tree that fits table, unread cells or not; None if none fits."""
    check_table(table)
    lots = fitting_partings(table.rows)
    return None if lots is None else tree_of(len(table.rows), lots)


def fitting_partings(rows):
    """The ascending tuple of the partings of a grown tree that fits a table of these rows; None if no tree fits.

    Each tree that fits has a finer one that is grown: each valley is alone at a place of one tie,
    and three ties meet at each lost place. Two pieces that have such a place in common have a tie
    there in common, so that the tree fits exactly if each of its partings is open.
    """
    many = len(rows)
    sets = marks_of_rows(rows)
    leading, steps = _leaders(sets)
    are_open = _open_lots([sets[valley] for valley in leading])
    halves = {}
    if _halves(are_open, halves, len(are_open) - 1) is None:
        return None
    groups = [[valley] for valley in range(many)]
    lots = list(groups)
    for follower, leader in steps:
        groups[leader] = groups[leader] + groups[follower]
        lots.append(groups[leader])
    for lot in _lots_behind(halves, len(are_open) - 1):
        lots.append([valley for place in bits(lot) for valley in groups[leading[place + 1]]])
    sides = [side_without_0(many, lot) for lot in lots]
    return tuple(sorted({side for side in sides if side != ()}))


def partings_that_fit(rows):
    """The list of all partings that grown trees have which fit a table of these rows; None if no tree fits.

    They are told as numbers with a bit for each valley.
    """
    are_open = _open_lots(marks_of_rows(rows))
    halves = {}
    found = [len(are_open) - 1]
    if _halves(are_open, halves, found[0]) is None:
        return None
    known = {found[0]: True}
    index = 0
    while index < len(found):
        for pair in _splits(are_open, halves, found[index], len(are_open)):
            for part in pair:
                if part not in known:
                    known[part] = True
                    found.append(part)
        index = index + 1
    # Bit 0 of a lot is that of valley 1; one valley has no parting.
    return [lot << 1 for lot in found if lot > 0]


def marks_of_rows(rows):
    """For each row the marks that it has, as the bits of a number: BITS of them for each matter."""
    return [number_of([BITS * matter + cell for matter, cell in enumerate(row) if cell is not None]) for row in rows]


def marks_within(sets, matters):
    """These sets of marks with those of these matters alone."""
    marks = sum([ALL_OF_ONE << BITS * matter for matter in matters])
    return [own & marks for own in sets]


def _leaders(sets):
    """The valleys, one or more, that need be put together to trees, and how the others follow them.

    A valley can follow a leader, which has all that it shares with others, and stand next to it
    in each tree for the others. How they follow is a list of pairs (follower, leader), in turn.
    """
    leading = list(range(len(sets)))
    steps = []
    seen = -1
    while seen < len(steps):
        seen = len(steps)
        shared = _shared([sets[valley] for valley in leading])
        for valley in list(leading):
            leader = _leader(sets, leading, valley, sets[valley] & shared)
            if leader is not None:
                leading.remove(valley)
                steps.append((valley, leader))
    return (leading, steps)


def _shared(sets):
    """The marks that two or more of the sets have."""
    once = 0
    shared = 0
    for own in sets:
        shared = shared | once & own
        once = once | own
    return shared


def _leader(sets, leading, valley, marks):
    """The first other one of the leading valleys that has all these marks; None if there is none."""
    for other in leading:
        if marks & ~sets[other] == 0 and other != valley:
            return other
    return None


def _open_lots(sets):
    """For each lot of the sets but the first one, as a number with a bit for each of these: whether it is open.

    It is if in each matter at most one custom is had by sets of the lot and by others.
    """
    unions = [0]
    for own in sets[1:]:
        unions = unions + [union | own for union in unions]
    shared = [own & (sets[0] | others) for own, others in zip(unions, unions[::-1])]
    # To take 1 from the bits of a matter, with one more ahead of them to take it from, changes
    # no bit but the least that is set and those below it.
    return [marks & ((marks | LAST_OF_EACH) - FIRST_OF_EACH) == 0 for marks in shared]


def _halves(are_open, halves, lot):
    """The two parts into which lot can be parted; () if it needs none; None if it cannot. Kept in halves."""
    if lot not in halves:
        if lot & (lot - 1) == 0:
            halves[lot] = ()
        else:
            splits = _splits(are_open, halves, lot, 1)
            halves[lot] = splits[0] if len(splits) > 0 else None
    return halves[lot]


def _splits(are_open, halves, lot, most):
    """The pairs of two open parts of lot that can be parted further to the end; no more than the first of them."""
    least = lot & -lot
    rest = lot - least
    part = rest
    found = []
    while part > 0 and len(found) < most:
        part = (part - 1) & rest
        one, other = least + part, rest - part
        if are_open[one] and are_open[other]:
            if _halves(are_open, halves, one) is not None and _halves(are_open, halves, other) is not None:
                found.append((one, other))
    return found


def _lots_behind(halves, lot):
    """lot and all parts that it is parted into, the parts of these with them."""
    lots = [lot]
    index = 0
    while index < len(lots):
        lots.extend(list(halves[lots[index]]))
        index = index + 1
    return lots


def _told(table, matter):
    """The list of the pairs (custom tree, its partings) of matter, ascending."""
    return [(tree, pair_partings(table, matter, tree)) for tree in custom_trees(table, matter)]


def _all_told(table):
    """_told for each matter; BadTable, Unread, or TooMany for more than 5000 arrows."""
    check_full(table)
    many = 1
    for matter in range(len(table.kinds)):
        many = many * len(custom_trees(table, matter))
        if many > MOST_ARROWS:
            raise TooMany(MOST_ARROWS)
    return [_told(table, matter) for matter in range(len(table.kinds))]


def _any_cross(lots, others):
    return any([do_cross(lot, other) for lot in lots for other in others])


def good_arrows(table):
    """The ascending list of all arrows without a clash."""
    found = [((), ())]
    for told in _all_told(table):
        found = [_more(start, choice) for start in found for choice in told if not _any_cross(start[1], choice[1])]
    return [arrows for arrows, _ in found]


def _more(start, choice):
    """The arrows of start and their partings, with the custom tree of choice and its partings behind them."""
    arrows, lots = start
    custom_tree, others = choice
    return (arrows + (custom_tree,), lots + others)


def choice_list(table):
    """A choice list, which shows that no tree fits; None if some tree fits."""
    told = _all_told(table)
    if some_fit(table):
        return None
    entries = []
    # A way is a dict with the partings of the custom tree that it has for a matter.
    ways = [{}]
    while len(entries) < len(ways):
        way = ways[len(entries)]
        matter = _narrowest(told, way)
        branches = []
        for custom_tree, lots in told[matter]:
            earlier = _clashing(way, lots)
            branches.append((custom_tree, len(ways) if earlier is None else ("clash", earlier)))
            if earlier is None:
                ways.append({**way, matter: lots})
        entries.append((matter, tuple(branches)))
    return tuple(entries)


def _narrowest(told, way):
    """The matter not on the way that has the fewest custom trees which agree with all on it."""
    many = {}
    for matter, choices in enumerate(told):
        if matter not in way:
            many[matter] = len([lots for _, lots in choices if _clashing(way, lots) is None])
    return min(list(many), key=lambda matter: many[matter])


def _clashing(way, lots):
    """The first matter on the way of which a parting crosses one of lots; None if there is none."""
    for matter, others in way.items():
        if _any_cross(lots, others):
            return matter
    return None


def is_choice_list(table, thing):
    """Whether thing, any value, is a choice list of table."""
    check_full(table)
    if not isinstance(thing, tuple) or len(thing) == 0:
        return False
    told = {}
    ways = {0: {}}
    for index, entry in enumerate(thing):
        if index not in ways or not _is_entry(table, told, ways[index], entry):
            return False
        way = ways[index]
        matter, branches = entry
        later = [(what, lots) for (_, what), (_, lots) in zip(branches, told[matter]) if is_number(what)]
        for number, lots in later:
            if not index < number < len(thing) or number in ways:
                return False
            ways[number] = {**way, matter: lots}
    return True


def _is_entry(table, told, way, thing):
    """Whether thing is an entry with this way, but for the numbers that it tells.

    told, a dict that this may add to, has _told of matters that were asked for.
    """
    if not isinstance(thing, tuple) or len(thing) != 2:
        return False
    matter, branches = thing
    if not is_between(matter, 0, len(table.kinds) - 1) or matter in way or not isinstance(branches, tuple):
        return False
    if matter not in told:
        told[matter] = _told(table, matter)
    if len(branches) != len(told[matter]):
        return False
    return all([_is_branch(table, matter, way, branch, choice) for branch, choice in zip(branches, told[matter])])


def _is_branch(table, matter, way, thing, choice):
    """Whether thing is a branch for choice, a custom tree and its partings: it tells a number or a true clash."""
    custom_tree, lots = choice
    if not isinstance(thing, tuple) or len(thing) != 2:
        return False
    # Equal is not enough: (False, True) is equal to (0, 1).
    if thing[0] != custom_tree or not is_custom_tree(table, matter, thing[0]):
        return False
    return is_number(thing[1]) or _is_clash(way, lots, thing[1])


def _is_clash(way, lots, thing):
    """Whether thing is the pair of the word clash and a matter on the way of which a parting crosses one of lots."""
    if not isinstance(thing, tuple) or len(thing) != 2 or thing[0] != "clash":
        return False
    return is_number(thing[1]) and thing[1] in way and _any_cross(lots, way[thing[1]])

"""Ways in which a custom may be found twice: those with the fewest changes, and what a tree needs too many."""

from oncefound.errors import Unlike
from oncefound.pieces import check_tree_and_table
from oncefound.tables import used
from oncefound.trees import check_place, steps_to


def customs_allowed(tree, table, matter):
    """The list of the customs that each place may have; BadMatter, or Unlike with the first place that has none."""
    customs = used(table, matter)
    allowed = []
    for place in range(len(tree.ties) + 1):
        cells = [row[matter] for row, seat in zip(table.rows, tree.seats) if seat == place]
        read = tuple(sorted({cell for cell in cells if cell is not None}))
        if len(read) > 1:
            raise Unlike(place)
        allowed.append(customs if read == () else read)
    return allowed


def _checked(tree, table, matter):
    """customs_allowed, behind BadTree, BadTable and OtherMany."""
    check_tree_and_table(tree, table)
    return customs_allowed(tree, table, matter)


def _told_at(tree, allowed, place):
    """For each custom that place may have a pair: the fewest changes of ways that have it there, and how many do."""
    step = steps_to(tree.ties, place)
    told = {near: {custom: (0, 1) for custom in allowed[near]} for near in step}
    # A place stands in step behind the next one on its way.
    for near in reversed(list(step)[1:]):
        ahead = step[near]
        told[ahead] = {custom: _with_branch(custom, pair, told[near]) for custom, pair in told[ahead].items()}
    return told[place]


def _with_branch(custom, pair, branch):
    """The pair of a custom at a place, with that of a branch behind it, which is told as in _told_at."""
    changes = [many if custom == other else many + 1 for other, (many, _) in branch.items()]
    least = min(changes)
    counts = [ways for many, (_, ways) in zip(changes, branch.values()) if many == least]
    return (pair[0] + least, pair[1] * sum(counts))


def _best_at(tree, allowed, place):
    """_told_at for those customs alone with which there are the fewest changes, ascending."""
    told = _told_at(tree, allowed, place)
    least = min([many for many, _ in told.values()])
    return {custom: pair for custom, pair in told.items() if pair[0] == least}


def _fewest(tree, allowed):
    return min([many for many, _ in _told_at(tree, allowed, 0).values()])


def fewest(tree, table, matter):
    """The least number of changes that a way has."""
    return _fewest(tree, _checked(tree, table, matter))


def ways_many(tree, table, matter):
    """How many ways have the least number of changes."""
    best = _best_at(tree, _checked(tree, table, matter), 0)
    return sum([ways for _, ways in best.values()])


def first_way(tree, table, matter):
    """The least tuple of the ways that have the least number of changes."""
    allowed = _checked(tree, table, matter)
    for place in range(len(allowed)):
        allowed[place] = (min(list(_best_at(tree, allowed, place))),)
    return tuple([customs[0] for customs in allowed])


def customs_at(tree, table, place, matter):
    """The ascending tuple of the customs that place has in ways with the least number of changes."""
    check_tree_and_table(tree, table)
    check_place(tree, place)
    return tuple(_best_at(tree, _checked(tree, table, matter), place))


def extra(tree, table):
    """How many changes more than used customs but one the matters need on tree, all taken together."""
    check_tree_and_table(tree, table)
    return sum([_extra_of(tree, table, matter) for matter in range(len(table.kinds))])


def _extra_of(tree, table, matter):
    return _fewest(tree, customs_allowed(tree, table, matter)) - len(used(table, matter)) + 1

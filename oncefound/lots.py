"""Lots of matters: the least that fit no tree, the greatest that fit one, ways out, and failing lots apart.

But for apart_lots, lots are told inside by numbers with a bit for each matter.
"""

from oncefound.chooser import do_fit, marks_of_rows, marks_within
from oncefound.rings import SHORTEST
from oncefound.tables import check_table
from oncefound.values import bits, number_of

PAIR = 2


def _listed(lots):
    """The tuple of these lots as tuples, those of fewer matters first, then ascending."""
    return tuple(sorted([tuple(bits(lot)) for lot in lots], key=lambda lot: (len(lot), lot)))


def _columns(table):
    """For each matter the list of its used customs, each as a number with a bit for each valley that has it."""
    columns = [{} for _ in table.kinds]
    for valley, row in enumerate(table.rows):
        for matter, cell in enumerate(row):
            if cell is not None:
                columns[matter][cell] = columns[matter].get(cell, 0) | 1 << valley
    return [list(column.values()) for column in columns]


def _is_ring_in(ones, others):
    """Whether the web of two matters, which are told as in _columns, has a ring."""
    ties = len([one for one in ones for other in others if one & other != 0])
    if ties < SHORTEST or ties >= len(ones) + len(others):
        return ties >= SHORTEST
    # Customs of the first matter that hang together are put together.
    parts = ones
    for other in others:
        touched = [part for part in parts if part & other != 0]
        if len(touched) < len([one for one in ones if one & other != 0]):
            return True
        parts = [part for part in parts if part & other == 0] + [sum(touched)]
    return False


def _barred(columns):
    """For each matter the lot of the matters with which it does not fit: those two alone have a ring."""
    barred = [0] * len(columns)
    for one in range(len(columns)):
        for other in range(one):
            if _is_ring_in(columns[one], columns[other]):
                barred[one] = barred[one] | 1 << other
                barred[other] = barred[other] | 1 << one
    return barred


def _greatest_unbarred(barred):
    """The list of the greatest lots no two matters of which bar one another."""
    found = [(0, 0)]
    for matter, own in enumerate(barred):
        bit = 1 << matter
        more = [(lot | bit, out | own) for lot, out in found if out & bit == 0]
        # What bars nothing is in each of the greatest.
        found = found + more if own > 0 else more
    whole = (1 << len(barred)) - 1
    return [lot for lot, out in found if lot | out == whole]


def _pairs_decide_in(table, columns):
    """The lot of the matters that have nothing unread and two customs at most: pairs of them decide."""
    every = (1 << len(table.rows)) - 1
    matters = range(len(columns))
    return number_of([matter for matter in matters if len(columns[matter]) <= 2 and sum(columns[matter]) == every])


def _do_fit(sets, simple, lot):
    """Whether a lot fits of which no two matters bar one another; pairs decide in simple."""
    matters = bits(lot)
    return lot & ~simple == 0 or len(matters) <= PAIR or do_fit(marks_within(sets, matters))


def _failing_and_fitting(table):
    """The list of the failing lots and that of the fitting lots."""
    columns = _columns(table)
    sets = marks_of_rows(table.rows)
    simple = _pairs_decide_in(table, columns)
    barred = _barred(columns)
    failing = [1 << one | 1 << other for one, own in enumerate(barred) for other in bits(own) if other < one]
    fitting = []
    # The greatest lots that have no part in failing: those in fitting, and those that are not tried yet.
    untried = _greatest_unbarred(barred)
    while len(untried) > 0:
        lot = untried.pop()
        if _do_fit(sets, simple, lot):
            fitting.append(lot)
        else:
            least = _least_failing(sets, simple, lot)
            failing.append(least)
            untried = _cut(untried + [lot], least, fitting)
    return (failing, fitting)


def _least_failing(sets, simple, lot):
    """A part of a lot that does not fit, without any matter of which the part would fit."""
    least = lot
    for matter in bits(lot):
        if not _do_fit(sets, simple, least - (1 << matter)):
            least = least - (1 << matter)
    return least


def _cut(lots, least, fitting):
    """The greatest parts of lots that do not have all of least, but for the parts of fitting ones."""
    found = [lot for lot in lots if lot & least != least]
    parts = [lot - (1 << matter) for lot in lots if lot & least == least for matter in bits(least)]
    for _, part in reversed(sorted([(len(bits(part)), part) for part in parts])):
        if not any([part & ~lot == 0 for lot in found + fitting]):
            found.append(part)
    return found


def failing_lots(table):
    """The tuple of all lots that do not fit although each lesser part of them does."""
    check_table(table)
    failing, _ = _failing_and_fitting(table)
    return _listed(failing)


def fitting_lots(table):
    """The tuple of all lots that fit although no greater lot with all their matters does."""
    check_table(table)
    _, fitting = _failing_and_fitting(table)
    return _listed(fitting)


def ways_out(table):
    """The tuple of all lots without whose matters the rest fits, although not without those of a lesser part."""
    check_table(table)
    _, fitting = _failing_and_fitting(table)
    whole = (1 << len(table.kinds)) - 1
    return _listed([whole - lot for lot in fitting])


def apart_lots(table):
    """As many failing lots as there can be without a matter that two of them have."""
    return _most_apart(failing_lots(table))


def _most_apart(lots):
    most = ()
    for index, lot in enumerate(lots):
        others = [other for other in lots[index + 1:] if not any([matter in lot for matter in other])]
        found = (lot,) + _most_apart(others)
        if len(found) > len(most):
            most = found
    return most

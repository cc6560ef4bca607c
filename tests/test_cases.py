"""Point 53: case lists."""

import itertools
import random
import unittest

from oncefound.cases import case_list, is_case_list
from oncefound.changing import kept
from oncefound.chooser import some_fit
from oncefound.closings import closing
from oncefound.errors import BadTable
from oncefound.tables import Table, is_full
from oncefound.texts import from_text
from oncefound.threes import pairs_example
from oncefound.web import marks
from oracles import across, had_together
from samples import Case, any_values, crowded_tables, random_history, random_tree, spoiled, table_a
from test_facts import some_fits
from test_rings import LONG, RING, turned
from test_web import table_apart, table_square

LIST = ((RING, ()),)
# No tree fits it, but some tree fits all but one of seven of its matters, whichever that is.
SEVEN = ("aa?baa??", "?cbb??bb", "a?bd?c??", "???da??a", "bc??c?b?", "a??a???a",
         "?cb???e?", "??b?bcb?", "a?bbca?e", "ba?????a", "aa?a?a??", "??b???ee")
# Two matters whose web is one ring of six marks: the three pairs across lead to rings of four.
SIX = Table((3, 3), ((0, 0), (0, 1), (1, 1), (1, 2), (2, 2), (2, 0)))
SIX_RING = ((0, 0), (1, 1), (0, 1), (1, 2), (0, 2), (1, 0))
SIX_LIST = (
    (SIX_RING, (((0, 0), (1, 2), 1), ((0, 1), (1, 0), 2), ((0, 2), (1, 1), 3))),
    (((0, 0), (1, 1), (0, 1), (1, 2)), ()),
    (((0, 1), (1, 0), (0, 0), (1, 1)), ()),
    (((0, 1), (1, 1), (0, 2), (1, 2)), ()),
)


def is_judged_case_list(table, thing):
    """The words of the document for what has the right kinds all through, with marks of the table alone."""
    ways = {0: []}
    told = [0]
    for index, (ring, branches) in enumerate(thing):
        if index not in ways:
            return False
        ties = had_together(table) + ways[index]
        steps = [tuple(sorted(pair)) for pair in zip(ring, ring[1:] + ring[:1])]
        if len(ring) < 4 or len(set(ring)) < len(ring) or not set(steps) <= set(ties):
            return False
        pairs = across(ring)
        legal = sorted(pair for pair in pairs if pair[0][0] != pair[1][0])
        if set(pairs) & set(ties) or [branch[:2] for branch in branches] != legal:
            return False
        for one, other, later in branches:
            told.append(later)
            if not index < later < len(thing):
                return False
            ways[later] = ways[index] + [(one, other)]
    return sorted(told) == list(range(len(thing)))


def nudged(dice, table, thing):
    """A case list with one mark or number of it changed, two entries exchanged, or a ring begun elsewhere."""
    entries = [list(entry) for entry in thing]
    index = dice.randrange(len(entries))
    ring, branches = entries[index]
    kind = dice.randrange(6)
    if kind == 0 or kind > 3 and not branches:
        entries[index][0] = dice.choice(list(turned(ring)))
    elif kind == 1:
        at = dice.randrange(len(ring))
        entries[index][0] = ring[:at] + (dice.choice(marks(table)),) + ring[at + 1:]
    elif kind == 2:
        other = dice.randrange(len(entries))
        entries[index], entries[other] = entries[other], entries[index]
    elif kind == 3:
        entries[index] = entries[dice.randrange(len(entries))]
    else:
        at = dice.randrange(len(branches))
        branch = list(branches[at])
        if kind == 4:
            branch[2] = dice.randrange(-1, len(entries) + 1)
        else:
            branch[dice.randrange(2)] = dice.choice(marks(table))
        entries[index][1] = branches[:at] + (tuple(branch),) + branches[at + 1:]
    return tuple(map(tuple, entries))


class CaseList(Case):
    def check(self, table, wanted):
        told = case_list(table)
        self.assertIs(told is not None, wanted)
        self.assertIs(closing(table) is None, wanted)
        if wanted:
            self.assertIs(is_case_list(table, told), True)
            self.assertIs(is_judged_case_list(table, told), True)
        return told

    def test_example(self):
        told = self.check(table_square(), True)
        self.assertEqual([(entry[0] in list(turned(RING)), entry[1]) for entry in told], [(True, ())])
        self.assertIs(is_case_list(table_square(), LIST), True)
        self.check(table_apart(), False)

    def test_exactly_where_no_tree_fits(self):
        found = {}
        for _, table in crowded_tables(1501, 250, (1, 2, 3, 4, 4, 4, 4, 4), (2, 3, 4), 3, (0, 0.1, 0.2)):
            wanted = not some_fits(table)
            self.check(table, wanted)
            key = (wanted, is_full(table))
            found[key] = found.get(key, 0) + 1
        self.assertTrue(len(found) == 4 and min(found.values()) > 10, found)

    def test_more_valleys(self):
        found = {True: 0, False: 0}
        sizes = []
        shares = (0, 0.2, 0.4, 0.5, 0.6)
        for _, table in crowded_tables(1502, 120, (5, 6, 8, 12), (2, 3, 6, 8), 6, shares):
            wanted = not some_fit(table)
            told = self.check(table, wanted)
            found[wanted] += 1
            sizes.append(len(told) if wanted else 0)
        self.assertTrue(min(found.values()) > 30 and max(sizes) > 10, (found, sizes))

    def test_where_each_two_or_three_matters_fit(self):
        self.check(pairs_example(), True)
        for lot in itertools.combinations(range(3), 2):
            self.check(kept(pairs_example(), lot), False)
        table = table_many()
        lots = [lot for size in (2, 3) for lot in itertools.combinations(range(len(table.kinds)), size)]
        for lot in lots:
            self.check(kept(table, lot), False)
        self.assertTrue(len(self.check(table, True)) > 3)
        table = from_text("\n".join(("kinds 6 6 6 6 6 6 6 6",) + SEVEN))
        least = [lot for lot in itertools.combinations(range(8), 7) if not some_fit(kept(table, lot))]
        self.assertEqual(len(least), 1)
        for lot in itertools.combinations(least[0], 6):
            self.check(kept(table, lot), False)
        self.check(table, True)
        self.check(kept(table, least[0]), True)

    def test_one_valley_and_twelve_one_matter_and_eight(self):
        self.check(Table((6,), ((5,),)), False)
        self.check(Table((6,) * 8, ((5,) * 8,)), False)
        self.check(Table((6,), tuple((valley % 6,) for valley in range(12))), False)
        self.check(Table((6,) * 8, tuple((valley % 6,) * 8 for valley in range(12))), False)
        rows = tuple((valley // 2,) + (valley % 6,) * 6 + ((valley + 1) // 2 % 6,) for valley in range(12))
        self.check(Table((6,) * 8, rows), True)
        self.check(Table((6, 6), tuple((row[0], row[7]) for row in rows)), True)
        square = table_square().rows
        self.check(Table((2, 2), ((None, None),) * 8 + square), True)
        self.check(Table((2, 2), square + square + square), True)
        self.check(Table((2, 2), ((None, None),) * 9 + square[:3]), False)

    def test_a_list_for_some_matters_is_one_for_all(self):
        some = 0
        for dice, table in crowded_tables(1503, 80, (5, 6, 8), (4, 5, 8), 4, (0, 0.3)):
            lot = tuple(sorted(dice.sample(range(len(table.kinds)), 3)))
            told = case_list(kept(table, lot))
            if told is not None:
                named = tuple((self.renumbered(lot, ring), tuple((*self.renumbered(lot, pair), later)
                               for *pair, later in branches)) for ring, branches in told)
                self.assertIs(is_case_list(table, named), True)
                some += 1
        self.assertTrue(some > 20, some)

    def renumbered(self, lot, told):
        return tuple((lot[matter], custom) for matter, custom in told)

    def test_nothing_is_kept_between_calls(self):
        table = SIX
        self.same(case_list(table), case_list(Table((3, 3), SIX.rows)))
        self.same(table, Table((3, 3), SIX.rows))


def table_many():
    """Four matters that no tree fits, though each three of them do."""
    for _, table in crowded_tables(1504, 100000, (8,), (4,), 3, (0.45,)):
        if not some_fit(table) and all(some_fit(kept(table, lot)) for lot in itertools.combinations(range(4), 3)):
            return table
    return None


class IsCaseList(Case):
    def test_by_hand(self):
        self.assertIs(is_case_list(SIX, SIX_LIST), True)
        for start in turned(SIX_RING):
            self.assertIs(is_case_list(SIX, ((start, SIX_LIST[0][1]),) + SIX_LIST[1:]), True)
        # The entries that are told may stand in any sequence.
        moved = ((SIX_RING, (((0, 0), (1, 2), 3), ((0, 1), (1, 0), 1), ((0, 2), (1, 1), 2))),)
        self.assertIs(is_case_list(SIX, moved + SIX_LIST[2:] + SIX_LIST[1:2]), True)
        self.assertIs(is_case_list(SIX, SIX_LIST[:1] + SIX_LIST[2:] + SIX_LIST[1:2]), False)

    def test_entries_told_twice_or_not_at_all(self):
        ring, branches = SIX_LIST[0]
        for later in itertools.product(range(-1, 5), repeat=3):
            changed = tuple((one, other, index) for (one, other, _), index in zip(branches, later))
            thing = ((ring, changed),) + SIX_LIST[1:]
            self.assertIs(is_case_list(SIX, thing), later == (1, 2, 3), later)
        self.assertIs(is_case_list(SIX, SIX_LIST + SIX_LIST[1:2]), False)
        self.assertIs(is_case_list(SIX, SIX_LIST[:3]), False)
        # Two triples tell one entry, whose ring would do for the way of either; or one tells what is no entry.
        for later in itertools.product(range(-1, 9), repeat=3):
            changed = tuple((one, other, index) for (one, other, _), index in zip(branches, later))
            for some in (SIX_LIST[1:3], SIX_LIST[1:4:2], SIX_LIST[2:]):
                self.assertIs(is_case_list(SIX, ((ring, changed),) + some), False)
        self.assertIs(is_case_list(SIX, SIX_LIST[1:]), False)
        self.assertIs(is_case_list(SIX, ()), False)

    def test_branches_left_out_or_in_another_order(self):
        ring, branches = SIX_LIST[0]
        for some in itertools.permutations(branches):
            self.assertIs(is_case_list(SIX, ((ring, some),) + SIX_LIST[1:]), some == branches)
        self.assertIs(is_case_list(SIX, ((ring, branches[:2]),) + SIX_LIST[1:3]), False)
        turned_pair = ((branches[0][1], branches[0][0], 1),) + branches[1:]
        self.assertIs(is_case_list(SIX, ((ring, turned_pair),) + SIX_LIST[1:]), False)
        extra = branches + (((0, 0), (0, 1), 4),)
        self.assertIs(is_case_list(SIX, ((ring, extra),) + SIX_LIST[1:] + SIX_LIST[1:2]), False)

    def test_rings_with_a_tie_across_or_of_ties_that_are_none(self):
        table = Table((2, 2, 2), ((0, 0, 0), (0, 1, 0), (1, 1, 0), (1, 0, 0)))
        self.assertIs(is_case_list(table, LIST), True)
        self.assertIs(is_case_list(table, ((((0, 0), (1, 0), (2, 0), (1, 1)), ()),)), False)
        self.assertIs(is_case_list(table_apart(), LIST), False)
        # The pair across this ring is legal, so that it needs a branch, and there is none to go on with.
        self.assertIs(is_case_list(table_apart(), ((LONG, ()),)), False)
        self.assertIs(is_case_list(table_apart(), ((LONG, (((1, 0), (2, 0), 1),)),)), False)
        self.assertIs(is_case_list(table_apart(), ((LONG, (((1, 0), (2, 0), 1),)), (LONG, ()))), False)
        self.assertIs(is_case_list(SIX, SIX_LIST[:1] + (SIX_LIST[2], SIX_LIST[1], SIX_LIST[3])), False)

    def test_a_tie_across_that_has_a_branch(self):
        more = Table((3, 3), SIX.rows + ((0, 2),))
        self.assertIs(is_case_list(more, SIX_LIST[1:2]), True)
        self.assertIs(is_case_list(more, SIX_LIST), False)
        # The ring of entry 1 has across it the tie that its way has.
        ring, branches = SIX_LIST[0]
        again = (ring, tuple((one, other, later + 3) for one, other, later in branches))
        self.assertIs(is_case_list(SIX, (SIX_LIST[0], again) + SIX_LIST[2:] + SIX_LIST[1:]), False)
        self.assertIs(is_case_list(SIX, (SIX_LIST[0], SIX_LIST[1]) + SIX_LIST[2:]), True)

    def test_what_is_written_otherwise_is_none(self):
        for table, right in ((table_square(), LIST), (SIX, SIX_LIST)):
            for thing in spoiled(right):
                self.assertIs(is_case_list(table, thing), False, thing)
        for value in any_values():
            self.assertIs(is_case_list(table_square(), value), False)
            self.assertIs(is_case_list(table_a(), value), False)

    def test_none_for_a_table_that_fits(self):
        dice = random.Random(1505)
        for _ in range(30):
            table = random_history(dice, random_tree(dice))[0]
            for thing in (LIST, SIX_LIST, ((LONG, ()),)):
                self.assertIs(is_case_list(table, thing), False)

    def test_nudged_lists_against_what_the_words_say(self):
        found = {True: 0, False: 0}
        for dice, table in crowded_tables(1506, 120, (6, 8), (2, 3, 4), 4, (0, 0.4, 0.5)):
            told = case_list(table)
            for _ in range(50 if told is not None else 0):
                thing = nudged(dice, table, told)
                wanted = is_judged_case_list(table, thing)
                self.assertIs(is_case_list(table, thing), wanted, thing)
                found[wanted] += 1
        self.assertTrue(min(found.values()) > 200, found)


class Errors(Case):
    def test_bad_table(self):
        for value in any_values():
            if not isinstance(value, Table):
                self.refused(BadTable, case_list, value)
                self.refused(BadTable, is_case_list, value, LIST)
                self.refused(BadTable, is_case_list, value, value)


if __name__ == "__main__":
    unittest.main()

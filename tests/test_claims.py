"""Point 81: sure quartets and partings, trees against them, and papers."""

import itertools
import random
import unittest

from oncefound.cases import case_list, is_case_list
from oncefound.changing import read, with_matter, with_row
from oncefound.chooser import some_fit
from oncefound.claims import against, is_sure, is_sure_paper, sure_paper, sure_partings, sure_quartets
from oncefound.errors import BadQuartet, BadTable, NoFit, TooMany
from oncefound.grown import grown
from oncefound.listing import fitting
from oncefound.pieces import fits
from oncefound.quartets import parts, quartets
from oncefound.splits import least_tree, table_of
from oncefound.tables import Table
from oncefound.trees import Tree, normal, partings, tree_of
from samples import Case, any_values, crowded_tables, random_history, random_tree, spoiled, wrong_values
from test_quartets import all_quartets, broken_rules, written

HALVES = Table((2,), ((0,), (0,), (1,), (1,)))
QUARTET = ((0, 1), (2, 3))
RING = ((0, 0), (1, 0), (0, 1), (1, 1))
PAPER = (((RING, ()),), ((RING, ()),))
SQUARE = Table((2, 2), ((0, 0), (0, 1), (1, 0), (1, 1)))
OF_A_QUARTET = (is_sure, against, sure_paper)


def rivals(table, quartet):
    """The two tables that have one matter of kind 2 more, as the words tell it."""
    (one, other), (third, fourth) = quartet
    columns = []
    for cells in ({one: 0, third: 0, other: 1, fourth: 1}, {one: 0, fourth: 0, other: 1, third: 1}):
        columns.append(tuple(cells.get(valley) for valley in range(len(table.rows))))
    return [with_matter(table, 2, column) for column in columns]


def small_tables(seed, times, valleys=(4, 4, 4, 5), matters=(1, 2, 3)):
    """Tables of few valleys that some tree fits."""
    for dice, table in crowded_tables(seed, times, valleys, matters, 3, (0, 0.2, 0.4)):
        if some_fit(table):
            yield dice, table


def tight_tables(seed, times, least=4, unread=(0, 0.2, 0.4), matters=7):
    """Tables of more valleys that some tree fits, of which few do."""
    dice = random.Random(seed)
    while times > 0:
        tree = random_tree(dice, 16)
        if len(tree.seats) >= least:
            times -= 1
            yield dice, random_history(dice, tree, matters, 5, dice.choice(unread))[0]


class IsSure(Case):
    def test_example(self):
        self.same(sure_quartets(HALVES), (QUARTET,))
        self.same(sure_partings(HALVES), ((2, 3),))
        self.assertIs(is_sure(HALVES, QUARTET), True)
        self.assertIs(against(HALVES, QUARTET), None)
        self.assertIs(is_sure_paper(HALVES, QUARTET, PAPER), True)
        self.assertIs(is_sure(HALVES, ((0, 2), (1, 3))), False)

    def test_against_all_trees_that_fit(self):
        found = {True: 0, False: 0}
        for _, table in small_tables(2301, 70):
            trees = fitting(table)
            sure = []
            for quartet in all_quartets(len(table.rows)):
                wanted = all(parts(tree, quartet) for tree in trees)
                self.assertIs(is_sure(table, quartet), wanted)
                told = against(table, quartet)
                if wanted:
                    self.assertIs(told, None)
                    sure.append(quartet)
                else:
                    self.assertIn(told, trees)
                    self.assertIs(parts(told, quartet), False)
                found[wanted] += 1
            self.same(sure_quartets(table), tuple(sure))
        self.assertTrue(min(found.values()) > 50, found)

    def test_against_both_rivals(self):
        found = {True: 0, False: 0}
        for dice, table in tight_tables(2302, 40):
            told = sure_quartets(table)
            every = all_quartets(len(table.rows))
            for quartet in dice.sample(every, min(12, len(every))) + list(told)[::9]:
                if len(table.kinds) < 8:
                    wanted = not any(some_fit(rival) for rival in rivals(table, quartet))
                    self.assertIs(is_sure(table, quartet), wanted)
                    self.assertIs(quartet in told, wanted)
                    found[wanted] += 1
                tree = against(table, quartet)
                self.assertIs(tree is None, quartet in told)
                if tree is not None:
                    self.assertIs(fits(tree, table), True)
                    self.assertIs(parts(tree, quartet), False)
                    self.same(tree, normal(tree))
        self.assertTrue(min(found.values()) > 50, found)

    def test_eight_matters_ask_for_rivals_of_nine(self):
        found = {True: 0, False: 0}
        halves = Table((2,) * 8, tuple((row[0],) * 8 for row in HALVES.rows))
        for table in (halves, table_of_eight(random.Random(2303))):
            for quartet in all_quartets(len(table.rows)):
                tree = against(table, quartet)
                self.assertIs(is_sure(table, quartet), tree is None)
                self.assertIs(quartet in sure_quartets(table), tree is None)
                if tree is not None:
                    self.assertIs(fits(tree, table) and not parts(tree, quartet), True)
                found[tree is None] += 1
        self.assertTrue(min(found.values()) > 1, found)
        table = table_of(tree_of(6, ((1,), (1, 2), (2,), (3,), (3, 4), (3, 4, 5), (4,), (5,))))
        self.assertEqual(len(table.kinds), 8)
        self.same(sure_quartets(table), quartets(least_tree(table)))
        for quartet in all_quartets(6):
            self.assertIs(is_sure(table, quartet), parts(least_tree(table), quartet))

    def test_six_customs_and_unread_cells(self):
        rows = tuple((valley // 2,) * 8 for valley in range(12))
        table = Table((6,) * 8, rows)
        pairs = [(valley, valley + 1) for valley in range(0, 12, 2)]
        self.same(sure_quartets(table), tuple(itertools.combinations(pairs, 2)))
        # Any of the six pieces may have the others around it.
        self.same(sure_partings(table), ())
        bare = Table((6,) * 8, rows[:11] + ((None,) * 8,))
        self.same(sure_quartets(bare), tuple(itertools.combinations(pairs[:5], 2)))

    def test_few_valleys(self):
        for many in (1, 2, 3):
            table = Table((2,), ((0,),) * many)
            self.same(sure_quartets(table), ())
            self.same(sure_partings(table), ())
            for function in OF_A_QUARTET:
                self.refused(BadQuartet, function, table, QUARTET)

    def test_sure_partings(self):
        some = 0
        for _, table in itertools.chain(small_tables(2304, 50), tight_tables(2305, 40)):
            many = len(table.rows)
            told = sure_partings(table)
            sure = sure_quartets(table)
            if many <= 5:
                shared = set.intersection(*[set(partings(tree)) for tree in fitting(table)])
                self.same(told, tuple(sorted(lot for lot in shared if 2 <= len(lot) <= many - 2)))
            lots = [lot for size in range(2, many - 1) for lot in itertools.combinations(range(1, many), size)]
            wanted = []
            for lot in lots:
                rest = [valley for valley in range(many) if valley not in lot]
                pairs = itertools.product(itertools.combinations(lot, 2), itertools.combinations(rest, 2))
                if all(written(*pair) in sure for pair in pairs):
                    wanted.append(lot)
            self.same(told, tuple(sorted(wanted)))
            some += len(told)
        self.assertTrue(some > 25, some)

    def test_two_customs_nothing_unread(self):
        for _, table in tight_tables(2306, 30, 4, (0,)):
            if max(table.kinds) <= 2:
                self.same(sure_quartets(table), quartets(least_tree(table)))
        some = 0
        for _, table in crowded_tables(2307, 60, (4, 5, 6, 8), (1, 2, 3), 2):
            tree = least_tree(table)
            if tree is not None:
                self.same(sure_quartets(table), quartets(tree))
                inner = tuple(lot for lot in partings(tree) if 2 <= len(lot) <= len(table.rows) - 2)
                self.same(sure_partings(table), inner)
                some += 1
        self.assertTrue(some > 15, some)

    def test_rules_of_sure_quartets(self):
        found = set()
        for _, table in small_tables(2308, 150, (4, 5, 5, 6), (1, 2, 3, 4)):
            broken = broken_rules(len(table.rows), sure_quartets(table))
            self.assertFalse({1, 2} & broken)
            found |= broken
        self.assertEqual(found, {3})


def table_of_eight(dice):
    """A table of eight matters, some cells unread, that some tree fits."""
    tree = grown(Tree((), (0,) * 6))
    while True:
        table = random_history(dice, tree, 8, 3, 0.3)[0]
        if len(table.kinds) == 8:
            return table


class StaysSure(Case):
    def test_what_is_sure_stays(self):
        some = 0
        for dice, table in tight_tables(2309, 40, 5, (0.3, 0.5), 5):
            sure = set(sure_quartets(table))
            more = []
            for valley, row in enumerate(table.rows):
                for matter, cell in enumerate(row):
                    if cell is None:
                        more.append(read(table, valley, matter, dice.randrange(table.kinds[matter])))
            more = dice.sample(more, min(4, len(more)))
            column = [dice.choice((0, 1, None)) for _ in table.rows]
            more.append(with_matter(table, 2, tuple(column[1:]) + (1,)))
            if len(table.rows) < 12:
                more.append(with_row(table, tuple(dice.choice((0, None)) for _ in table.kinds)))
            for other in more:
                if some_fit(other):
                    self.assertTrue(sure <= set(sure_quartets(other)))
                    some += len(sure) > 0
        self.assertTrue(some > 40, some)

    def test_the_matter_of_a_quartet(self):
        for dice, table in small_tables(2310, 25, (4, 5), (1, 2)):
            quartet = dice.choice(all_quartets(len(table.rows)))
            column = [None] * len(table.rows)
            for number, pair in enumerate(quartet):
                for valley in pair:
                    column[valley] = number
            wanted = [tree for tree in fitting(table) if parts(tree, quartet)]
            self.same(fitting(with_matter(table, 2, tuple(column))), wanted)


class Papers(Case):
    def test_a_paper_or_a_tree_against_it(self):
        found = {True: 0, False: 0}
        turned = {True: 0, False: 0}
        for dice, table in itertools.chain(small_tables(2311, 40), tight_tables(2312, 40, 4, (0, 0.3), 6)):
            every = all_quartets(len(table.rows))
            for quartet in dice.sample(every, min(4, len(every))) + list(sure_quartets(table))[::20]:
                if len(table.kinds) < 8:
                    paper = sure_paper(table, quartet)
                    self.assertIs(paper is None, against(table, quartet) is not None)
                    if paper is not None:
                        self.assertIs(is_sure_paper(table, quartet, paper), True)
                        self.assertIs(type(paper), tuple)
                        one, other = rivals(table, quartet)
                        self.assertIs(is_case_list(one, paper[0]) and is_case_list(other, paper[1]), True)
                        wanted = is_case_list(one, paper[1]) and is_case_list(other, paper[0])
                        self.assertIs(is_sure_paper(table, quartet, paper[::-1]), wanted)
                        turned[wanted] += 1
                    found[paper is None] += 1
        self.assertTrue(min(found.values()) > 40, found)
        self.assertTrue(min(turned.values()) > 0, turned)

    def test_judged_as_two_case_lists(self):
        found = {True: 0, False: 0}
        for dice, table in small_tables(2313, 40):
            quartet = dice.choice(all_quartets(len(table.rows)))
            one, other = rivals(table, quartet)
            lists = [case_list(one), case_list(other), PAPER[0], ()]
            for pair in itertools.product(lists, repeat=2):
                wanted = is_case_list(one, pair[0]) and is_case_list(other, pair[1])
                self.assertIs(is_sure_paper(table, quartet, pair), wanted)
                found[wanted] += 1
        self.assertTrue(min(found.values()) > 5, found)

    def test_where_no_tree_fits_the_table(self):
        ring = (((0, 0), (1, 0), (0, 1), (1, 1)), ())
        self.assertIs(is_sure_paper(SQUARE, QUARTET, ((ring,), (ring,))), True)
        self.assertIs(is_sure_paper(SQUARE, QUARTET, ((ring,), ())), False)
        for function in OF_A_QUARTET:
            self.refused(NoFit, function, SQUARE, QUARTET)

    def test_spoiled_papers_and_any_value(self):
        for value in spoiled(PAPER) + any_values():
            self.assertIs(is_sure_paper(HALVES, QUARTET, value), False, value)
        for wrong in (PAPER[:1], PAPER + PAPER[:1], list(PAPER), PAPER[0], (PAPER[0], None), (None, PAPER[0])):
            self.assertIs(is_sure_paper(HALVES, QUARTET, wrong), False)

    def test_eight_matters(self):
        for rows in (HALVES.rows, ((0,), (1,), (0,), (1,))):
            table = Table((2,) * 8, tuple((row[0],) * 8 for row in rows))
            self.refused(BadQuartet, sure_paper, table, ((0, 1), (2, 4)))
            self.refused(BadQuartet, is_sure_paper, table, ((0, 1), (2, 4)), PAPER)
            self.refused(TooMany, sure_paper, table, QUARTET, told={"most": 8})
            self.refused(TooMany, is_sure_paper, table, QUARTET, PAPER, told={"most": 8})
            self.refused(TooMany, is_sure_paper, table, QUARTET, None, told={"most": 8})
        unfit = Table((2,) * 8, tuple(row * 4 for row in SQUARE.rows))
        self.refused(TooMany, sure_paper, unfit, QUARTET, told={"most": 8})
        self.refused(TooMany, is_sure_paper, unfit, QUARTET, PAPER, told={"most": 8})
        for function in (is_sure, against):
            self.refused(NoFit, function, unfit, QUARTET)
        seven = Table((2,) * 7, tuple((row[0],) * 7 for row in HALVES.rows))
        paper = sure_paper(seven, QUARTET)
        self.assertIs(is_sure_paper(seven, QUARTET, paper), True)
        self.assertIs(sure_paper(seven, ((0, 2), (1, 3))), None)


class Errors(Case):
    def test_bad_table_bad_quartet_no_fit(self):
        calls = [(function, ()) for function in OF_A_QUARTET] + [(is_sure_paper, (None,))]
        for function, more in calls:
            for value in any_values():
                if not isinstance(value, Table):
                    self.refused(BadTable, function, value, None, *more)
            for value in wrong_values([QUARTET]) + spoiled(QUARTET):
                self.refused(BadQuartet, function, HALVES, value, *more)
                self.refused(BadQuartet, function, SQUARE, value, *more)
            for value in (((0, True), (2, 3)), ((False, 1), (2, 3)), ((2, 3), (0, 1)), ((0, 1), (2, 4)),
                          ((1, 0), (2, 3)), ((0, 1), (1, 2))):
                self.refused(BadQuartet, function, HALVES, value, *more)
        for function in (sure_quartets, sure_partings):
            for value in any_values():
                if not isinstance(value, Table):
                    self.refused(BadTable, function, value)
            self.refused(NoFit, function, SQUARE)


if __name__ == "__main__":
    unittest.main()

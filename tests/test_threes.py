"""Point 60, first half: three matters that no tree fits, and middle customs."""

import itertools
import unittest

from oncefound.changing import kept
from oncefound.chooser import good_arrows, some_fit
from oncefound.errors import BadMatter, BadTable, NotThree, Unread
from oncefound.tables import Table, used
from oncefound.threes import bad_three, middle_pairs, pairs_example
from oracles import agreeing, trees_of_customs
from samples import Case, any_values, crowded_tables, table_a, wrong_values
from test_facts import some_fits


def threes(seed, times, valleys=(4, 5, 6, 8, 12), matters=(1, 2, 3, 4, 8)):
    """Full tables with at most three used customs in each matter, some of which fit no tree."""
    return crowded_tables(seed, times, valleys, matters, 3)


def middle_of(tree):
    return [custom for custom in tree[0] if custom in tree[1]][0]


class BadThree(Case):
    def test_example(self):
        self.same(bad_three(pairs_example()), (0, 1, 2))
        for lot in itertools.combinations(range(3), 2):
            self.assertIs(bad_three(kept(pairs_example(), lot)), None)

    def test_the_first_of_the_fewest(self):
        table = Table((1, 2, 2, 2), ((0, 0, 0, 0), (0, 0, 1, 0), (0, 1, 0, 1), (0, 1, 1, 1)))
        self.same(bad_three(table), (1, 2))
        self.same(bad_three(kept(table, (0, 2, 3))), (1, 2))
        rows = tuple((0,) + row for row in pairs_example().rows)
        self.same(bad_three(Table((6, 3, 3, 3), rows)), (1, 2, 3))
        # Two that cross come ahead of three, even if they stand behind them.
        crossing = ((0, 0), (0, 1), (1, 0), (1, 1), (0, 0), (0, 0))
        table = Table((3, 3, 3, 2, 2), tuple(row + pair for row, pair in zip(pairs_example().rows, crossing)))
        self.same(bad_three(table), self.first(table))
        self.assertEqual(len(bad_three(table)), 2)

    def first(self, table):
        matters = range(len(table.kinds))
        lots = [lot for size in (1, 2, 3) for lot in itertools.combinations(matters, size)]
        return next((lot for lot in lots if not some_fit(kept(table, lot))), None)

    def test_none_exactly_where_some_tree_fits(self):
        found = {}
        for _, table in threes(1601, 200, (4,)):
            told = bad_three(table)
            self.assertIs(told is None, some_fits(table))
            found[told and len(told)] = True
        sizes = {}
        for _, table in threes(1602, 300):
            told = bad_three(table)
            self.assertIs(told is None, some_fit(table))
            self.same(told, self.first(table))
            sizes[told and len(told)] = sizes.get(told and len(told), 0) + 1
        self.assertEqual(set(sizes), {None, 2, 3}, sizes)
        self.assertEqual(set(found), {None, 2})

    def test_one_valley_and_twelve_one_matter_and_eight(self):
        self.assertIs(bad_three(Table((6,), ((5,),))), None)
        self.assertIs(bad_three(Table((6,) * 8, ((5,) * 8, (0,) * 8, (3,) * 8) * 4)), None)
        rows = tuple((valley % 2,) * 7 + (valley // 2 % 2,) for valley in range(12))
        self.same(bad_three(Table((2,) * 8, rows)), (0, 7))


class MiddlePairs(Case):
    def test_example(self):
        table = pairs_example()
        self.same(middle_pairs(table, 0, 1), ((2, 1),))
        self.same(middle_pairs(table, 0, 2), ((0, 1),))
        self.same(middle_pairs(table, 1, 2), ((0, 1),))

    def test_the_other_way_about_and_with_itself(self):
        table = pairs_example()
        self.same(middle_pairs(table, 1, 0), ((1, 2),))
        for matter in range(3):
            self.same(middle_pairs(table, matter, matter), tuple(itertools.product(range(3), repeat=2)))

    def test_customs_that_are_not_the_lowest(self):
        table = Table((6, 3), ((5, 0), (1, 1), (3, 1), (1, 2), (5, 0)))
        self.same(middle_pairs(table, 0, 1), ((1, 0), (1, 1), (1, 2), (3, 1), (5, 1)))

    def test_against_custom_trees_that_agree(self):
        found = set()
        for _, table in threes(1603, 150, matters=(2, 3)):
            three = [matter for matter in range(len(table.kinds)) if len(used(table, matter)) == 3]
            for one, other in itertools.product(three, repeat=2):
                trees = itertools.product(trees_of_customs(table, one), trees_of_customs(table, other))
                wanted = {(middle_of(first), middle_of(second)) for first, second in trees
                          if agreeing(table, one, other, first, second)}
                self.same(middle_pairs(table, one, other), tuple(sorted(wanted)))
                if one != other:
                    pair = kept(table, tuple(sorted((one, other))))
                    self.assertIs(bool(wanted), some_fit(pair))
                    self.assertIs(bool(wanted), bool(good_arrows(pair)))
                found.add(len(wanted))
        self.assertTrue({0, 1, 9} < found, found)

    def test_middles_can_be_chosen_exactly_where_some_tree_fits(self):
        found = {True: 0, False: 0}
        for _, table in threes(1604, 400, (6, 7), (2, 3, 4)):
            matters = range(len(table.kinds))
            if any(len(used(table, matter)) != 3 for matter in matters):
                continue
            told = {pair: middle_pairs(table, *pair) for pair in itertools.combinations(matters, 2)}
            chosen = [customs for customs in itertools.product(*[used(table, matter) for matter in matters])
                      if all((customs[one], customs[other]) in told[one, other] for one, other in told)]
            self.assertIs(bool(chosen), some_fit(table))
            found[bool(chosen)] += 1
        self.assertTrue(min(found.values()) > 2, found)


class PairsExample(Case):
    def test_it(self):
        rows = ((1, 0, 0), (2, 1, 1), (0, 1, 1), (0, 2, 0), (2, 0, 1), (2, 1, 2))
        self.same(pairs_example(), Table((3, 3, 3), rows))
        self.assertIs(some_fit(pairs_example()), False)
        for lot in itertools.combinations(range(3), 2):
            self.assertIs(some_fit(kept(pairs_example(), lot)), True)


class Errors(Case):
    def test_bad_table_then_unread_then_not_three(self):
        four = Table((1, 5, 4), ((0, 0, 0), (0, 1, 1), (0, 3, 2), (0, 4, 3)))
        for value in any_values():
            if not isinstance(value, Table):
                self.refused(BadTable, bad_three, value)
                self.refused(BadTable, middle_pairs, value, None, None)
            self.refused(Unread, middle_pairs, table_a(), value, value)
            self.refused(NotThree, middle_pairs, four, value, value, told={"matter": 1})
        self.refused(Unread, bad_three, table_a())
        self.refused(NotThree, bad_three, four, told={"matter": 1})
        self.refused(NotThree, bad_three, kept(four, (0, 2)), told={"matter": 1})
        self.refused(Unread, bad_three, Table((4, 1), ((0, 0), (1, None), (2, 0), (3, 0))))
        self.assertIs(bad_three(Table((6,), ((0,), (3,), (5,)))), None)

    def test_the_matters_of_middle_pairs(self):
        table = Table((3, 2, 3, 1), ((0, 0, 0, 0), (1, 1, 1, 0), (2, 0, 2, 0)))
        for value in wrong_values([0, 1, 2, 3]):
            self.refused(BadMatter, middle_pairs, table, value, value)
            self.refused(BadMatter, middle_pairs, table, value, 1)
            self.refused(BadMatter, middle_pairs, table, 2, value)
            self.refused(NotThree, middle_pairs, table, 1, value, told={"matter": 1})
        self.refused(NotThree, middle_pairs, table, 3, 1, told={"matter": 3})
        self.refused(NotThree, middle_pairs, table, 0, 1, told={"matter": 1})
        self.refused(NotThree, middle_pairs, table, 0, 3, told={"matter": 3})
        self.refused(BadMatter, middle_pairs, table, True, 0)
        self.assertEqual(len(middle_pairs(table, 0, 2)), 9)


if __name__ == "__main__":
    unittest.main()

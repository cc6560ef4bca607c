"""Point 92: the grown trees with the least extra."""

import itertools
import random
import unittest

from oncefound.best import best
from oncefound.changing import kept, picked, with_matter
from oncefound.chooser import some_fit
from oncefound.errors import BadTable, TooMany, Unlike
from oncefound.fewest import extra
from oncefound.grown import is_grown
from oncefound.listing import all_trees, fitting
from oncefound.lots import apart_lots
from oncefound.tables import Table
from oncefound.trees import Tree, partings, tree_of
from oracles import loose_columns, normal_trees, used_customs
from samples import Case, any_values, crowded_tables

SQUARE = Table((2, 2), ((0, 0), (0, 1), (1, 0), (1, 1)))


def extra_by_words(tree, table):
    """For all matters together the fewest changes of all ways, less the used customs, plus one for each matter."""
    total = 0
    for matter in range(len(table.kinds)):
        ways = loose_columns(tree, table, matter)
        fewest = min(sum(way[one] != way[other] for one, other in tree.ties) for way in ways)
        total += fewest - len(used_customs(table, matter)) + 1
    return total


def some_tables(seed, times, valleys=(1, 2, 3, 4, 4, 4, 5), matters=(1, 2, 3), most_kind=3):
    return crowded_tables(seed, times, valleys, matters, most_kind, (0, 0.2, 0.4))


class Best(Case):
    def test_example(self):
        least, trees = best(SQUARE)
        self.same(least, 1)
        rest = ((1,), (1, 2, 3), (2,), (3,))
        self.same(trees, [tree_of(4, tuple(sorted(rest + (lot,)))) for lot in ((1, 3), (2, 3))])
        self.assertIs(type(best(SQUARE)), tuple)

    def test_against_all_grown_trees_and_all_ways(self):
        leasts = set()
        for _, table in some_tables(2701, 60, (1, 2, 3, 4, 4, 4)):
            grown = [tree for tree in normal_trees(len(table.rows)) if is_grown(tree)]
            extras = {partings(tree): extra_by_words(tree, table) for tree in grown}
            least = min(extras.values())
            wanted = [tree_of(len(table.rows), lots) for lots in sorted(extras) if extras[lots] == least]
            self.same(best(table), (least, wanted))
            leasts.add(least)
        self.assertTrue({0, 1, 2} <= leasts, leasts)

    def test_five_valleys(self):
        leasts = set()
        grown = [tree for tree in all_trees(5) if is_grown(tree)]
        for _, table in some_tables(2702, 40, (5,), (1, 2, 4, 6)):
            extras = [extra(tree, table) for tree in grown]
            wanted = [tree for tree, own in zip(grown, extras) if own == min(extras)]
            self.same(best(table), (min(extras), wanted))
            leasts.add(min(extras))
        self.assertTrue(len(leasts) > 2, leasts)
        for _, table in some_tables(2703, 2, (5,), (1,), 2):
            self.assertEqual(best(table)[0], min(extra_by_words(tree, table) for tree in grown))

    def test_no_tree_has_less(self):
        for _, table in some_tables(2704, 30, (2, 3, 4)):
            least, _ = best(table)
            for tree in normal_trees(len(table.rows)):
                try:
                    own = extra(tree, table)
                except Unlike:
                    continue
                self.assertTrue(own >= least)

    def test_0_exactly_if_some_tree_fits(self):
        found = {True: 0, False: 0}
        for _, table in some_tables(2705, 120, matters=(1, 2, 3, 4)):
            least, trees = best(table)
            self.assertIs(least == 0, some_fit(table))
            if least == 0:
                self.same(trees, [tree for tree in fitting(table) if is_grown(tree)])
            found[least == 0] += 1
        self.assertTrue(min(found.values()) > 20, found)

    def test_at_least_the_lots_apart_and_the_parts(self):
        some = 0
        for dice, table in some_tables(2706, 60, (4, 5), (2, 3, 4, 5, 6)):
            least, _ = best(table)
            self.assertTrue(least >= len(apart_lots(table)))
            some += len(apart_lots(table)) > 1
            matters = tuple(range(len(table.kinds)))
            for size in (1, len(matters) // 2):
                for lot in itertools.islice(itertools.combinations(matters, size), 3):
                    rest = tuple(matter for matter in matters if matter not in lot)
                    if lot and rest:
                        self.assertTrue(least >= best(kept(table, lot))[0] + best(kept(table, rest))[0])
        self.assertTrue(some > 3, some)

    def test_fewer_valleys_and_one_matter_more(self):
        dice = random.Random(2707)
        changed = 0
        for _, table in some_tables(2708, 60, (3, 4, 5), (2, 3, 4)):
            least, _ = best(table)
            valleys = dice.sample(range(len(table.rows)), dice.randint(2, len(table.rows)))
            columns = zip(*[table.rows[valley] for valley in valleys])
            if all(set(column) != {None} for column in columns):
                self.assertTrue(best(picked(table, tuple(valleys)))[0] <= least)
                changed += best(picked(table, tuple(valleys)))[0] < least
            column = tuple(dice.choice((0, 1, None)) for _ in table.rows[1:]) + (1,)
            self.assertTrue(best(with_matter(table, 2, column))[0] >= least)
        self.assertTrue(changed > 3, changed)

    def test_one_valley_and_one_custom(self):
        self.same(best(Table((6,), ((5,),))), (0, [Tree((), (0,))]))
        self.same(best(Table((6,), ((5,), (None,)))), (0, [tree_of(2, ((1,),))]))
        self.assertEqual([len(best(Table((6,), ((5,),) * many))[1]) for many in range(1, 6)], [1, 1, 1, 3, 15])
        self.assertEqual(best(Table((2,) * 8, tuple(row * 4 for row in SQUARE.rows)))[0], 4)

    def test_the_list_is_new(self):
        best(SQUARE)[1].clear()
        self.assertEqual(len(best(SQUARE)[1]), 2)

    def test_errors(self):
        for value in any_values():
            if not isinstance(value, Table):
                self.refused(BadTable, best, value)
        for many in (6, 12):
            self.refused(TooMany, best, Table((2,), ((0,),) * many), told={"most": 5})


if __name__ == "__main__":
    unittest.main()

"""Point 70: all trees of few valleys, those that fit, the least of them, what they agree in, idle matters."""

import functools
import random
import unittest

from oncefound.changing import kept, with_matter
from oncefound.chooser import some_fit
from oncefound.errors import BadMany, BadTable, NoFit, TooMany
from oncefound.listing import agreed, all_trees, fitting, idle, least, only
from oncefound.lots import failing_lots
from oncefound.pieces import fits
from oncefound.splits import least_tree
from oncefound.tables import Table, used
from oncefound.trees import Tree, alike, common, finer, normal, partings, tree_of
from oracles import families
from samples import Case, any_values, crowded_tables, wrong_values

SQUARE = Table((2, 2), ((0, 0), (0, 1), (1, 0), (1, 1)))


def table_k():
    """The table t of point 70."""
    return Table((3,), ((0,), (1,), (2,)))


def trees_that_fit(table):
    return [tree for tree in all_trees(len(table.rows)) if fits(tree, table)]


def few_valleys(seed, times, valleys=(1, 2, 3, 4, 4, 4, 4)):
    return crowded_tables(seed, times, valleys, (1, 2, 3, 4), 4, (0, 0, 0.2, 0.4))


class AllTrees(Case):
    def test_how_many_there_are(self):
        self.assertEqual([len(all_trees(many)) for many in range(1, 6)], [1, 2, 8, 64, 832])

    def test_all_families_of_partings_ascending(self):
        for many in range(1, 6):
            trees = all_trees(many)
            told = [partings(tree) for tree in trees]
            self.assertEqual(told, sorted({tuple(sorted(family)) for family in families(many)}))
            for tree in trees[::7]:
                self.same(tree, normal(tree))
                self.same(tree, tree_of(many, partings(tree)))
        self.same(all_trees(1), [Tree((), (0,))])
        self.same(all_trees(2), [Tree((), (0, 0)), Tree(((0, 1),), (0, 1))])

    def test_the_list_is_new(self):
        all_trees(3).clear()
        self.assertEqual(len(all_trees(3)), 8)

    def test_bad_many(self):
        for value in wrong_values([1, 2, 3, 4, 5]):
            self.refused(BadMany, all_trees, value)
        self.refused(BadMany, all_trees, True)
        self.refused(BadMany, all_trees, 6)
        self.refused(BadMany, all_trees, 0)


class Fitting(Case):
    def test_example(self):
        trees = fitting(table_k())
        wanted = [((1,), (1, 2)), ((1,), (1, 2), (2,)), ((1,), (2,)), ((1, 2), (2,))]
        self.same([partings(tree) for tree in trees], wanted)
        self.same([partings(tree) for tree in least(table_k())], [wanted[0], wanted[2], wanted[3]])
        self.same(agreed(table_k()), Tree((), (0, 0, 0)))
        self.assertIs(fits(agreed(table_k()), table_k()), False)
        self.assertIs(only(table_k()), None)
        self.same(idle(table_k()), ())
        table = with_matter(table_k(), 2, (0, 0, 1))
        self.same([partings(tree) for tree in fitting(table)], wanted[1:])
        self.same(agreed(table), Tree(((0, 1),), (0, 0, 1)))

    def test_against_all_trees_one_by_one(self):
        found = {}
        for _, table in few_valleys(1901, 150):
            trees = trees_that_fit(table)
            self.same(fitting(table), trees)
            self.assertIs(some_fit(table), bool(trees))
            found[min(len(trees), 2)] = True
        self.assertEqual(set(found), {0, 1, 2})

    def test_five_valleys(self):
        for _, table in crowded_tables(1902, 8, (5,), (1, 2, 3), 4, (0, 0.2)):
            self.same(fitting(table), trees_that_fit(table))

    def test_least(self):
        for _, table in few_valleys(1903, 60):
            trees = fitting(table)
            wanted = [tree for tree in trees if not any(finer(tree, other) for other in trees if other != tree)]
            self.same(least(table), wanted)
            for tree in all_trees(len(table.rows)):
                self.assertIs(fits(tree, table), any(finer(tree, lesser) for lesser in wanted))

    def test_least_of_five_valleys(self):
        for _, table in crowded_tables(1904, 6, (5,), (2, 3, 4), 4, (0, 0.2)):
            trees = fitting(table)
            told = least(table)
            for tree in trees:
                self.assertIs(tree in told, not any(finer(tree, other) for other in told if other != tree))
                self.assertTrue(any(finer(tree, other) for other in told))

    def test_agreed_and_only(self):
        found = {}
        for _, table in few_valleys(1905, 200):
            trees = fitting(table)
            if not trees:
                self.refused(NoFit, agreed, table)
                self.assertIs(only(table), None)
                self.same(least(table), [])
                continue
            told = agreed(table)
            self.same(told, functools.reduce(common, trees))
            self.assertTrue(alike(told, functools.reduce(common, least(table))))
            self.assertIs(fits(told, table), len(least(table)) == 1)
            self.assertIs(only(table) is not None, len(trees) == 1)
            if len(trees) == 1:
                self.same(only(table), trees[0])
                self.same(told, trees[0])
            found[len(trees) == 1, len(least(table)) == 1] = True
        self.assertEqual(set(found), {(True, True), (False, True), (False, False)})

    def test_two_customs(self):
        found = {True: 0, False: 0}
        for _, table in crowded_tables(1906, 80, (2, 3, 4, 5), (1, 2, 3), 2):
            told = least_tree(table)
            self.same(least(table), [] if told is None else [told])
            found[told is None] += 1
        self.assertTrue(min(found.values()) > 10, found)

    def test_one_valley_and_five_one_matter_and_eight(self):
        self.same(fitting(Table((6,), ((5,),))), [Tree((), (0,))])
        self.same(only(Table((6,), ((5,),))), Tree((), (0,)))
        self.same(idle(Table((6,), ((5,),))), (0,))
        self.assertEqual(len(fitting(Table((6,), ((5,),) * 5))), 832)
        self.same(least(Table((6,) * 8, ((5,) * 8,) * 5)), [Tree((), (0,) * 5)])
        self.same(idle(Table((6,) * 8, ((5,) * 8,) * 5)), tuple(range(8)))
        self.same(fitting(Table((5,) * 8, tuple((valley,) * 8 for valley in range(5)))),
                  fitting(Table((5,), tuple((valley,) for valley in range(5)))))

    def test_lists_are_new(self):
        for function in (fitting, least):
            function(table_k()).clear()
            self.assertTrue(len(function(table_k())) > 2)


class Idle(Case):
    def idle_by_words(self, table):
        matters = range(len(table.kinds))
        trees = all_trees(len(table.rows))
        found = []
        for matter in matters:
            others = tuple(other for other in matters if other != matter)
            behind = [tree for tree in trees if not others or fits(tree, kept(table, others))]
            if all(fits(tree, table) for tree in behind):
                found.append(matter)
        return tuple(found)

    def test_against_the_words(self):
        found = set()
        for _, table in few_valleys(1907, 80):
            told = idle(table)
            self.same(told, self.idle_by_words(table))
            found.add((some_fit(table), bool(told)))
        self.assertEqual(len(found), 4)

    def test_matters_that_put_the_same_valleys_together(self):
        dice = random.Random(1908)
        for _, table in few_valleys(1909, 40):
            customs = dice.sample(range(6), 6)
            matter = dice.randrange(len(table.kinds))
            column = tuple(None if row[matter] is None else customs[row[matter]] for row in table.rows)
            more = with_matter(table, 6, column)
            self.assertTrue({matter, len(table.kinds)} <= set(idle(more)))
            self.same(fitting(more), fitting(table))
            one = with_matter(table, 6, tuple(dice.choice((3, None)) for _ in column[1:]) + (3,))
            self.assertIn(len(table.kinds), idle(one))
            self.assertEqual(len(used(one, len(table.kinds))), 1)

    def test_without_one_the_same_trees_fit_but_not_without_two(self):
        others = 0
        for _, table in few_valleys(1910, 60):
            told = idle(table)
            matters = range(len(table.kinds))
            for matter in matters if len(table.kinds) > 1 else ():
                rest = kept(table, tuple(other for other in matters if other != matter))
                self.assertIs(fitting(rest) == fitting(table), matter in told)
            if len(told) > 1 and len(table.kinds) > 2:
                rest = kept(table, tuple(other for other in matters if other not in told[:2]))
                others += fitting(rest) != fitting(table)
        self.assertTrue(others > 0)

    def test_where_no_tree_fits_all_failing_lots_have_the_others(self):
        some = 0
        for _, table in few_valleys(1911, 150):
            if not some_fit(table):
                lots = failing_lots(table)
                wanted = tuple(matter for matter in range(len(table.kinds))
                               if not all(matter in lot for lot in lots))
                self.same(idle(table), wanted)
                some += 1
        self.assertTrue(some > 10, some)


class Errors(Case):
    def test_bad_table_then_too_many_then_no_fit(self):
        six = Table((2, 2), SQUARE.rows + ((0, 0), (0, 0)))
        for function in (fitting, least, agreed, only, idle):
            for value in any_values():
                if not isinstance(value, Table):
                    self.refused(BadTable, function, value)
            self.refused(TooMany, function, six, told={"most": 5})
            self.refused(TooMany, function, Table((2,), ((0,),) * 12), told={"most": 5})
        self.refused(NoFit, agreed, SQUARE)
        self.refused(NoFit, agreed, Table((2, 2), SQUARE.rows + ((0, 0),)))
        self.same((fitting(SQUARE), least(SQUARE), only(SQUARE), idle(SQUARE)), ([], [], None, ()))


if __name__ == "__main__":
    unittest.main()

"""Point 40: custom trees, their partings, and which of them agree."""

import itertools
import random
import unittest

from oncefound.customtrees import agree, custom_trees, is_custom_tree, pair_partings
from oncefound.errors import BadCustomTree, BadMatter, BadTable, Unread
from oncefound.pieces import fits
from oncefound.tables import Table, used
from oncefound.trees import finer, partings, tree_of
from oracles import agreeing, arrows_of_table, cross, normal_trees, partings_of_pairs, trees_of_customs
from samples import Case, any_values, random_table, table_a, wrong_values

LINE = ((0, 1), (1, 2))


def table_c():
    """The table t of point 40."""
    return Table((3, 2), ((0, 0), (1, 0), (2, 1), (1, 1)))


def random_fulls(seed, times=60, most=6, **sizes):
    """Full tables with at most so many used customs in each matter."""
    dice = random.Random(seed)
    while times > 0:
        table = random_table(dice, unread=0, **sizes)
        if max(len(used(table, matter)) for matter in range(len(table.kinds))) <= most:
            times -= 1
            yield dice, table


class CustomTrees(Case):
    def test_example(self):
        wanted = [((0, 1), (0, 2)), ((0, 1), (1, 2)), ((0, 2), (1, 2))]
        self.same(custom_trees(table_c(), 0), wanted)
        self.same(custom_trees(table_c(), 1), [((0, 1),)])

    def test_how_many_there_are(self):
        for kind, many in ((1, 1), (2, 1), (3, 3), (4, 16), (5, 125), (6, 1296)):
            table = Table((6,), tuple((6 - custom,) for custom in range(1, kind + 1)))
            trees = custom_trees(table, 0)
            self.assertEqual(len(trees), many)
            self.same(trees, trees_of_customs(table, 0))
            self.assertEqual(trees, sorted(set(trees)))
            self.assertTrue(all(is_custom_tree(table, 0, tree) is True for tree in trees))

    def test_used_customs_alone(self):
        table = Table((6, 6, 6), ((5, 2, 3), (1, 2, 5), (3, 2, 3)))
        self.same(custom_trees(table, 0), [((1, 3), (1, 5)), ((1, 3), (3, 5)), ((1, 5), (3, 5))])
        self.same(custom_trees(table, 1), [()])
        self.same(custom_trees(table, 2), [((3, 5),)])

    def test_the_list_is_new(self):
        table = table_c()
        trees = custom_trees(table, 0)
        trees.clear()
        self.assertEqual(len(custom_trees(table, 0)), 3)

    def test_one_and_twelve_valleys_one_and_eight_matters(self):
        self.same(custom_trees(Table((6,), ((5,),)), 0), [()])
        table = Table((2,) * 8, ((0,) * 8,) * 11 + ((1,) * 8,))
        self.same(custom_trees(table, 7), [((0, 1),)])
        self.refused(BadMatter, custom_trees, table, 8)


class IsCustomTree(Case):
    def test_any_value(self):
        table = table_c()
        for value in wrong_values([((0, 1),)]):
            self.assertIs(is_custom_tree(table, 0, value), False)
            self.assertIs(is_custom_tree(table, 1, value), False)
        self.assertIs(is_custom_tree(table, 1, ((0, 1),)), True)
        one = Table((6,), ((4,), (4,)))
        for value in wrong_values([()]):
            self.assertIs(is_custom_tree(one, 0, value), False)
        self.assertIs(is_custom_tree(one, 0, ()), True)

    def test_wrong_ones(self):
        table = Table((5,), ((0,), (1,), (3,), (4,)))
        self.assertIs(is_custom_tree(table, 0, ((0, 1), (1, 3), (3, 4))), True)
        wrong = [
            [(0, 1), (1, 3), (3, 4)], ([0, 1], (1, 3), (3, 4)), ((0, 1), (1, 3), [3, 4]), ((0, 1), (3, 4), (1, 3)),
            ((1, 3), (0, 1), (3, 4)), ((0, 1), (1, 3)), ((0, 1), (1, 3), (1, 4), (3, 4)), ((0, 1), (0, 3), (1, 3)),
            ((0, 1), (0, 1), (3, 4)), ((0, 1), (1, 3), (1, 3)), ((1, 0), (1, 3), (3, 4)), ((0, 1), (1, 3), (4, 3)),
            ((0, 1), (1, 2), (2, 4)), ((0, 1), (1, 2), (3, 4)), ((0, 1), (1, 3), (3, 5)), ((0, 0), (1, 3), (3, 4)),
            ((0, 1), (1, 3), (3, 3)), ((-1, 1), (1, 3), (3, 4)), ((0, True), (1, 3), (3, 4)), ((0, 1), (True, 3), (3, 4)),
            ((False, 1), (1, 3), (3, 4)), ((0, 1), (1, 3), (3, None)), ((0, 1), (1, 3), ("3", "4")), ((0, 1), (1, 3), 4),
            ((0, 1, 3), (1, 3), (3, 4)), ((0, 1), (1,), (3, 4)), ((0, 1), (), (3, 4)), ((0, 1), None, (3, 4)),
            {(0, 1): 0, (1, 3): 0, (3, 4): 0}, ((0, 1), {1: 3, 3: 1}, (3, 4)), ((0, 1), "13", (3, 4)), None, (),
            (((0, 1), (1, 3), (3, 4)),), ((0, 1), (1, 3), (3, (4,))),
        ]
        for thing in wrong:
            self.assertIs(is_custom_tree(table, 0, thing), False, thing)
            self.refused(BadCustomTree, pair_partings, table, 0, thing)
            self.refused(BadCustomTree, agree, table, 0, thing, 0, ((0, 1), (1, 3), (3, 4)))
            self.refused(BadCustomTree, agree, table, 0, ((0, 1), (1, 3), (3, 4)), 0, thing)

    def test_just_those_that_are_listed(self):
        for customs in ((0, 1, 2), (1, 3, 4), (0, 2, 3, 5)):
            table = Table((6,), tuple((custom,) for custom in reversed(customs)))
            right = trees_of_customs(table, 0)
            ends = customs + tuple({0, 5} - set(customs))
            pairs = list(itertools.product(ends, repeat=2))
            for size in range(len(customs) - 1 if len(customs) > 3 else 4):
                for thing in itertools.product(pairs, repeat=size):
                    self.assertIs(is_custom_tree(table, 0, thing), thing in right)
            for thing in itertools.combinations(itertools.combinations(customs, 2), len(customs) - 1):
                self.assertIs(is_custom_tree(table, 0, thing), thing in right)


class PairPartings(Case):
    def test_example(self):
        trees = custom_trees(table_c(), 0)
        wanted = [((1, 3), (2,)), ((1, 2, 3), (2,)), ((1, 2, 3), (1, 3))]
        self.same([pair_partings(table_c(), 0, tree) for tree in trees], wanted)
        self.same(pair_partings(table_c(), 1, ((0, 1),)), ((2, 3),))

    def test_in_the_order_of_the_pairs(self):
        table = Table((6,), ((3,), (0,), (5,), (1,), (0,)))
        self.same(pair_partings(table, 0, ((0, 1), (1, 3), (3, 5))), ((1, 4), (1, 3, 4), (2,)))
        self.same(pair_partings(table, 0, ((0, 3), (0, 5), (1, 5))), ((1, 2, 3, 4), (2, 3), (3,)))
        self.same(pair_partings(Table((6,), ((5,),) * 12), 0, ()), ())

    def test_against_what_the_words_say(self):
        for dice, table in random_fulls(701):
            for matter in range(len(table.kinds)):
                trees = trees_of_customs(table, matter)
                for tree in dice.sample(trees, min(len(trees), 8)):
                    lots = pair_partings(table, matter, tree)
                    self.same(lots, tuple(partings_of_pairs(table, matter, tree)))
                    # Facts: they are different, and no two of them cross.
                    self.assertEqual(len(set(lots)), len(lots))
                    self.assertFalse(any(cross(*two) for two in itertools.combinations(lots, 2)))


class Agree(Case):
    def test_example(self):
        told = [agree(table_c(), 0, tree, 1, ((0, 1),)) for tree in custom_trees(table_c(), 0)]
        self.same(told, [False, True, False])
        told = [agree(table_c(), 1, ((0, 1),), 0, tree) for tree in custom_trees(table_c(), 0)]
        self.same(told, [False, True, False])

    def test_a_matter_with_itself(self):
        table = table_c()
        trees = custom_trees(table, 0)
        for tree in trees:
            self.same(agree(table, 0, tree, 0, tree), True)
        table = Table((4,), ((0,), (1,), (2,), (3,)))
        told = [agree(table, 0, ((0, 1), (1, 2), (2, 3)), 0, tree) for tree in custom_trees(table, 0)]
        wanted = [agreeing(table, 0, 0, ((0, 1), (1, 2), (2, 3)), tree) for tree in trees_of_customs(table, 0)]
        self.same(told, wanted)
        self.assertEqual(set(told), {True, False})

    def test_one_used_custom_agrees_with_all(self):
        table = Table((6, 6), ((0, 4), (3, 4), (5, 4)))
        for tree in custom_trees(table, 0):
            self.same(agree(table, 0, tree, 1, ()), True)
            self.same(agree(table, 1, (), 0, tree), True)
        self.same(agree(table, 1, (), 1, ()), True)

    def test_against_what_the_words_say(self):
        found = set()
        for dice, table in random_fulls(702):
            for _ in range(20):
                one, other = (dice.randrange(len(table.kinds)) for _ in range(2))
                first, second = (dice.choice(trees_of_customs(table, matter)) for matter in (one, other))
                wanted = agreeing(table, one, other, first, second)
                self.same(agree(table, one, first, other, second), wanted)
                found.add((one == other, wanted))
        self.assertEqual(len(found), 4)


class TreesThatFit(Case):
    def good_arrows(self, table):
        """All ways to choose a custom tree for each matter, each two of which agree."""
        for chosen in arrows_of_table(table):
            pairs = itertools.combinations(enumerate(chosen), 2)
            if all(agree(table, one, first, other, second) for (one, first), (other, second) in pairs):
                yield chosen

    def test_pairs_that_agree_and_trees_that_fit_go_together(self):
        fitting = 0
        tables = [table for many in (1, 2, 3, 4) for _, table in random_fulls(703 + many, 14, 4, valleys=many)]
        tables += [table for _, table in random_fulls(710, 10, 3, matters=2, valleys=5)]
        for table in tables:
            if len(list(itertools.islice(arrows_of_table(table), 1001))) > 1000:
                continue
            many = len(table.rows)
            told = [tree_of(many, self.all_partings(table, chosen)) for chosen in self.good_arrows(table)]
            # The trees that fit are those that are finer than one of the trees that are told so.
            for tree in normal_trees(many):
                self.assertIs(fits(tree, table), any(finer(tree, least) for least in told))
            fitting += bool(told)
        self.assertTrue(20 < fitting < len(tables), (fitting, len(tables)))

    def all_partings(self, table, chosen):
        lots = [pair_partings(table, matter, tree) for matter, tree in enumerate(chosen)]
        return tuple(sorted({lot for several in lots for lot in several}))

    def test_the_partings_of_a_custom_tree_are_those_of_a_tree_that_fits(self):
        for _, table in random_fulls(704, 40, 4, matters=1):
            for chosen in custom_trees(table, 0):
                tree = tree_of(len(table.rows), tuple(sorted(pair_partings(table, 0, chosen))))
                self.assertIs(fits(tree, table), True)
                self.assertEqual(len(partings(tree)), len(used(table, 0)) - 1)


class Errors(Case):
    CALLS = (
        (custom_trees, (9,)), (is_custom_tree, (9, 9)), (pair_partings, (9, 9)), (agree, (9, 9, 9, 9)),
    )

    def test_no_table_then_unread_then_the_rest(self):
        for function, rest in self.CALLS:
            for value in any_values():
                if not isinstance(value, Table):
                    self.refused(BadTable, function, value, *rest)
            self.refused(Unread, function, table_a(), *rest)
            self.refused(Unread, function, Table((1, 2), ((0, 0), (0, None))), *rest)
            for value in wrong_values([0, 1]):
                self.refused(BadMatter, function, table_c(), value, *rest[1:])

    def test_the_parameters_of_agree(self):
        table, line = table_c(), ((0, 1),)
        for value in wrong_values([0, 1]):
            self.refused(BadMatter, agree, table, value, value, value, value)
            self.refused(BadCustomTree, agree, table, 0, line, value, value)
            self.refused(BadMatter, agree, table, 0, LINE, value, value)
        for value in wrong_values([((0, 1),)]):
            self.refused(BadCustomTree, agree, table, 1, value, 9, value)
            self.refused(BadCustomTree, agree, table, 1, value, 0, LINE)
            self.refused(BadCustomTree, agree, table, 0, LINE, 1, value)
            self.refused(BadCustomTree, pair_partings, table, 1, value)
        # The custom tree of the one matter is none of the other.
        self.refused(BadCustomTree, agree, table, 1, LINE, 0, LINE)
        self.refused(BadCustomTree, agree, table, 0, LINE, 1, LINE)
        self.refused(BadMatter, agree, table, 0, LINE, True, line)
        self.refused(BadMatter, agree, table, False, LINE, 1, line)


if __name__ == "__main__":
    unittest.main()

"""Point 30: tables with at most two used customs in each matter."""

import itertools
import random
import unittest

from oncefound.errors import BadMatter, BadTable, BadTree, NotTwo, TooMany, Unread
from oncefound.middles import closure, crossing_lots, majority, steps_back
from oncefound.pieces import fits
from oncefound.splits import crossed, four, least_tree, table_of
from oncefound.tables import Table, used
from oncefound.trees import Tree, finer, normal, partings, tree_of
from oracles import cross, grown_twelve, normal_trees, renumbered, split_of
from samples import Case, any_values, random_trees, table_a, tree_t, wrong_values


def table_t():
    """The table t of point 30."""
    return Table((2, 2, 2), ((0, 0, 0), (1, 1, 0), (1, 0, 1)))


def table_u():
    """The table t of point 30 with one row more."""
    return Table((2, 2, 2), ((0, 0, 0), (1, 1, 0), (1, 0, 1), (0, 1, 1)))


def random_two(dice, matters=None, valleys=None):
    """A full table with one or two used customs in each matter, any of six."""
    pairs = [dice.sample(range(6), dice.choice((1, 2, 2, 2))) for _ in range(matters or dice.randint(1, 8))]
    many = valleys or dice.randint(1, 12)
    return Table((6,) * len(pairs), tuple(tuple(dice.choice(pair) for pair in pairs) for _ in range(many)))


def all_twos(many, matters):
    """All tables of so many valleys and matters of kind 2."""
    columns = list(itertools.product((0, 1), repeat=many))
    for chosen in itertools.product(columns, repeat=matters):
        yield Table((2,) * matters, tuple(zip(*chosen)))


def cross_in(table, one, other):
    """Whether two matters cross: whether each pair of their customs is had by some valley."""
    customs = [used(table, matter) for matter in (one, other)]
    return len(customs[0]) == 2 and len({(row[one], row[other]) for row in table.rows}) == 4


class Example(Case):
    def test_t(self):
        self.same(crossed(table_t()), None)
        self.same(least_tree(table_t()), Tree(((0, 2), (1, 2), (2, 3)), (0, 1, 3)))
        self.same(partings(least_tree(table_t())), ((1,), (1, 2), (2,)))
        self.same(four(table_t(), 0, 1), None)

    def test_u(self):
        self.same(crossed(table_u()), (0, 1))
        self.same(four(table_u(), 0, 1), (0, 3, 2, 1))
        self.same(four(table_u(), 1, 0), (0, 2, 3, 1))
        self.same(least_tree(table_u()), None)


class Crossed(Case):
    def test_the_first_pair(self):
        columns = [(0, 0, 0, 1), (0, 0, 1, 1), (0, 1, 1, 0), (0, 1, 0, 1), (0, 0, 0, 0)]
        self.same(crossed(Table((2,) * 5, tuple(zip(*columns)))), (1, 2))
        self.same(crossed(Table((2,) * 4, tuple(zip(*[columns[k] for k in (1, 0, 1, 3)])))), (0, 3))
        self.same(crossed(Table((2,) * 3, tuple(zip(*[columns[k] for k in (0, 2, 3)])))), (1, 2))
        self.same(crossed(Table((2,) * 3, tuple(zip(*[columns[k] for k in (0, 1, 4)])))), None)

    def test_equal_and_mirrored_matters_do_not_cross(self):
        table = Table((2, 2, 6), ((0, 1, 5), (0, 1, 5), (1, 0, 3), (1, 0, 3)))
        self.same((crossed(table), four(table, 0, 1), four(table, 2, 0)), (None, None, None))
        self.same(least_tree(table), tree_of(4, ((2, 3),)))

    def test_against_what_the_words_say(self):
        dice = random.Random(501)
        for _ in range(150):
            table = random_two(dice)
            matters = range(len(table.kinds))
            pairs = [pair for pair in itertools.combinations(matters, 2)
                     if cross(split_of(table, pair[0]), split_of(table, pair[1]))]
            self.same(crossed(table), pairs[0] if pairs else None)
            self.assertEqual(pairs, [pair for pair in itertools.combinations(matters, 2) if cross_in(table, *pair)])


class LeastTree(Case):
    def test_edges(self):
        self.same(least_tree(Table((6,), ((5,),))), Tree((), (0,)))
        self.same(least_tree(Table((2,) * 8, ((1,) * 8,))), Tree((), (0,)))
        self.same(least_tree(Table((2, 3), ((1, 2),) * 12)), Tree((), (0,) * 12))
        table = Table((2,) * 8, tuple(tuple(int(valley > matter + 3) for matter in range(8)) for valley in range(12)))
        lots = tuple(tuple(range(first, 12)) for first in range(4, 12))
        self.same(least_tree(table), tree_of(12, lots))
        self.same(least_tree(Table((6, 6), ((5, 2), (3, 2), (5, 4)))), tree_of(3, ((1,), (2,))))

    def test_the_trees_that_fit_are_those_that_are_finer(self):
        tables = [*all_twos(1, 2), *all_twos(2, 2), *all_twos(3, 2), *itertools.islice(all_twos(4, 2), 0, None, 3)]
        dice = random.Random(502)
        tables += [random_two(dice, matters, 4) for matters in (1, 2, 3, 4, 8) for _ in range(6)]
        tables += [random_two(dice, dice.choice((1, 2, 3)), 5) for _ in range(8)]
        for table in tables:
            least = least_tree(table)
            trees = normal_trees(len(table.rows))
            fitting = [tree for tree in trees if fits(tree, table)]
            self.assertIs(least is None, not fitting)
            self.assertIs(least is None, crossed(table) is not None)
            if least is not None:
                self.same(normal(least), least)
                self.assertEqual(fitting, [tree for tree in trees if finer(tree, least)])

    def test_large_trees_that_are_not_normal(self):
        dice = random.Random(503)
        for _, tree in random_trees(504, 80):
            lots = partings(tree)
            some = dice.sample(lots, min(len(lots), dice.randint(1, 8)))
            if not some:
                continue
            columns = [[int(valley in lot) ^ 1 for valley in range(len(tree.seats))] for lot in some]
            table = Table((2,) * len(some), tuple(zip(*columns)))
            self.same(least_tree(table), tree_of(len(tree.seats), tuple(sorted(some))))
            self.assertIs(fits(tree, table), True)
            rest = [lot for lot in lots if lot != some[0]]
            self.assertIs(fits(tree_of(len(tree.seats), tuple(rest)), table), False)


class Four(Case):
    def test_the_least_valleys(self):
        table = Table((6, 6), ((5, 2), (5, 2), (3, 2), (5, 4), (3, 4), (3, 2), (3, 4)))
        self.same(four(table, 0, 1), (2, 4, 0, 3))
        self.same(four(table, 1, 0), (2, 0, 4, 3))

    def test_one_matter_with_itself(self):
        for table in (table_t(), table_u()):
            for matter in range(3):
                self.same(four(table, matter, matter), None)

    def test_against_what_the_words_say(self):
        dice = random.Random(505)
        some = 0
        for _ in range(120):
            table = random_two(dice)
            matters = range(len(table.kinds))
            for one, other in itertools.product(matters, repeat=2):
                wanted = None
                if one != other and cross_in(table, one, other):
                    seen = [(row[one], row[other]) for row in table.rows]
                    wanted = tuple(seen.index(pair) for pair in sorted(set(seen)))
                    some += 1
                self.same(four(table, one, other), wanted)
        self.assertTrue(some > 100)

    def test_wrong_matters(self):
        for matter in wrong_values([0, 1, 2]):
            self.refused(BadMatter, four, table_t(), matter, 0)
            self.refused(BadMatter, four, table_u(), 0, matter)
            self.refused(BadMatter, four, table_u(), matter, matter)


class TableOf(Case):
    def test_example(self):
        wanted = Table((2, 2, 2, 2), ((0, 0, 0, 0), (1, 0, 0, 0), (0, 1, 1, 0), (0, 0, 1, 1)))
        self.same(table_of(tree_t()), wanted)

    def test_without_ties(self):
        self.same(table_of(Tree((), (0,))), Table((1,), ((0,),)))
        self.same(table_of(Tree((), (0,) * 12)), Table((1,), ((0,),) * 12))

    def test_eight_and_nine_ties(self):
        lots = tuple((valley,) for valley in range(1, 12))
        eight = table_of(tree_of(12, lots[:8]))
        self.assertEqual((eight.kinds, len(eight.rows)), ((2,) * 8, 12))
        self.same(least_tree(eight), tree_of(12, lots[:8]))
        self.refused(TooMany, table_of, tree_of(12, lots[:9]), told={"most": 8})
        self.refused(TooMany, table_of, grown_twelve(), told={"most": 8})
        line = tuple((place, place + 1) for place in range(9))
        self.same(table_of(Tree(line[:8], tuple(range(9)))).kinds, (2,) * 8)
        self.refused(TooMany, table_of, Tree(line, tuple(range(10))), told={"most": 8})

    def test_least_tree_of_it_is_normal(self):
        for many in (1, 2, 3, 4, 5):
            for tree in normal_trees(many)[::5 if many == 5 else 1]:
                self.same(least_tree(table_of(tree)), tree)
        for dice, tree in random_trees(506):
            tree = renumbered(tree, dice.sample(range(len(tree.ties) + 1), len(tree.ties) + 1))
            if len(tree.ties) > 8:
                self.refused(TooMany, table_of, tree, told={"most": 8})
                continue
            table = table_of(tree)
            columns = [tuple(int(valley in lot) for valley in range(len(tree.seats))) for lot in partings(tree)]
            self.same(table.rows, tuple(zip(*columns or [(0,) * len(tree.seats)])))
            self.same(table.kinds, (2,) * len(columns) or (1,))
            self.same(least_tree(table), normal(tree))
            self.assertIs(fits(tree, table), True)

    def test_no_tree(self):
        for value in any_values():
            if not isinstance(value, Tree):
                self.refused(BadTree, table_of, value)


class Errors(Case):
    CALLS = (
        (crossed, ()), (least_tree, ()), (four, (9, 9)), (majority, (99, 99, 99)), (closure, ()),
        (crossing_lots, ()), (steps_back, (None,)),
    )

    def test_no_table(self):
        for function, rest in self.CALLS:
            for value in any_values():
                if not isinstance(value, Table):
                    self.refused(BadTable, function, value, *rest)

    def test_unread_then_not_two_then_the_rest(self):
        both = Table((3, 3), ((0, 0), (1, 1), (2, None), (0, 2)))
        threes = Table((2, 3, 1, 4), ((0, 0, 0, 3), (1, 1, 0, 2), (0, 2, 0, 1)))
        last = Table((6, 6), ((0, 5), (3, 4), (0, 3), (3, 2)))
        for function, rest in self.CALLS:
            self.refused(Unread, function, both, *rest)
            self.refused(Unread, function, table_a(), *rest)
            self.refused(Unread, function, Table((1, 1), ((0, 0), (0, None))), *rest)
            self.refused(NotTwo, function, threes, *rest, told={"matter": 1})
            self.refused(NotTwo, function, last, *rest, told={"matter": 1})
            self.refused(NotTwo, function, Table((6,), ((5,), (1,), (3,))), *rest, told={"matter": 0})

    def test_more_than_two_customs_of_which_two_are_used(self):
        table = Table((6, 6), ((5, 1), (2, 1), (5, 0)))
        for function, rest in ((crossed, ()), (least_tree, ()), (four, (0, 1)), (majority, (0, 1, 2)), (closure, ())):
            function(table, *rest)
        self.same(crossed(table), None)


if __name__ == "__main__":
    unittest.main()

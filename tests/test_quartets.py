"""Point 80: quartets of trees, the three rules, and the tree that quartets tell."""

import itertools
import random
import unittest

from oncefound.errors import BadMany, BadQuartet, BadQuartets, BadTree
from oncefound.grown import grown
from oncefound.listing import all_trees
from oncefound.quartets import are_quartets, parts, quartets, tree_of_quartets
from oncefound.trees import Tree, normal, partings, path, tree_of
from oracles import grown_twelve, normal_trees, renumbered
from samples import Case, any_values, random_trees, spoiled, tree_t, wrong_values

ONE = (((0, 1), (2, 3)),)
FIVE = (((0, 1), (2, 3)), ((0, 1), (2, 4)), ((0, 1), (3, 4)))


def all_quartets(many):
    """All quartets of many valleys, ascending."""
    pairs = list(itertools.combinations(range(many), 2))
    return [(one, other) for one, other in itertools.combinations(pairs, 2) if not set(one) & set(other)]


def parted_by_paths(tree, quartet):
    one, other = [{*path(tree, tree.seats[near], tree.seats[far])} for near, far in quartet]
    return not one & other


def parted_by_partings(tree, quartet):
    (one, other), (third, fourth) = quartet
    return any((one in lot) == (other in lot) != (third in lot) == (fourth in lot) for lot in partings(tree))


def written(near, far):
    return tuple(sorted((tuple(sorted(near)), tuple(sorted(far)))))


def broken_rules(many, lots):
    """The rules that these quartets break, each tried for all ways to write all of five valleys."""
    has = {quartet: True for quartet in lots}
    broken = set()
    for a, b, c, d in itertools.permutations(range(many), 4):
        if written((a, b), (c, d)) in has:
            if written((a, c), (b, d)) in has or written((a, d), (b, c)) in has:
                broken.add(1)
            for e in set(range(many)) - {a, b, c, d}:
                if written((a, b), (c, e)) in has and written((a, b), (d, e)) not in has:
                    broken.add(2)
                if written((a, b), (c, e)) not in has and written((a, e), (c, d)) not in has:
                    broken.add(3)
    return broken


def inner(tree):
    """The partings of tree with two valleys or more, and two or more others outside."""
    return tuple(lot for lot in partings(tree) if 2 <= len(lot) <= len(tree.seats) - 2)


def some_trees(seed, times=40):
    for dice, tree in random_trees(seed, times):
        yield tree
        full = grown(tree)
        yield renumbered(full, dice.sample(range(len(full.ties) + 1), len(full.ties) + 1))


class Parts(Case):
    def test_by_paths_and_by_partings(self):
        found = {True: 0, False: 0}
        for tree in some_trees(2201, 30):
            for quartet in all_quartets(len(tree.seats))[::7]:
                told = parts(tree, quartet)
                self.assertIs(told, parted_by_paths(tree, quartet))
                self.assertIs(told, parted_by_partings(tree, quartet))
                found[told] += 1
        self.assertTrue(min(found.values()) > 200, found)

    def test_all_normal_trees_of_four_valleys(self):
        for tree in normal_trees(4):
            for quartet in all_quartets(4):
                self.assertIs(parts(tree, quartet), parted_by_paths(tree, quartet))

    def test_bad_quartet(self):
        tree = tree_t()
        wrong = [((1, 0), (2, 3)), ((0, 1), (3, 2)), ((2, 3), (0, 1)), ((0, 1), (1, 2)), ((0, 1), (2, 4)),
                 ((0, 1), (2, 2)), ((0, 0), (2, 3)), ((0, 1), (2, 3), (0, 1)), ((0, 1),), ((0, 1, 2), (3,)),
                 ((-1, 1), (2, 3)), ((False, 1), (2, 3)), ((0, True), (2, 3)), [(0, 1), (2, 3)], ([0, 1], (2, 3)),
                 ((1, 2), (0, 3)), (0, 1, 2, 3), "0123", ((0, 2), (1, None)), ((1, 3), (0, 2))]
        for value in wrong + spoiled(((0, 1), (2, 3))) + any_values():
            self.refused(BadQuartet, parts, tree, value)
        self.assertIs(parts(tree, ((0, 1), (2, 3))), True)
        self.assertIs(parts(tree, ((0, 2), (1, 3))), False)

    def test_no_quartets_of_three_valleys(self):
        for many in (1, 2, 3):
            for quartet in all_quartets(4):
                self.refused(BadQuartet, parts, Tree((), (0,) * many), quartet)

    def test_bad_tree_first(self):
        for value in any_values():
            if not isinstance(value, Tree):
                self.refused(BadTree, parts, value, None)
                self.refused(BadTree, quartets, value)


class Quartets(Case):
    def test_example(self):
        self.same(quartets(tree_of(4, ((2, 3),))), ONE)

    def test_all_that_are_parted(self):
        for tree in some_trees(2202, 25):
            every = all_quartets(len(tree.seats))
            self.same(quartets(tree), tuple(quartet for quartet in every if parted_by_partings(tree, quartet)))

    def test_at_most_one_of_three(self):
        for tree in some_trees(2203, 15):
            valleys = [tuple(sorted(one + other)) for one, other in quartets(tree)]
            self.assertEqual(len(valleys), len(set(valleys)))

    def test_partings_by_quartets(self):
        for tree in list(all_trees(5))[::9] + list(normal_trees(4)):
            many = len(tree.seats)
            told = quartets(tree)
            for size in range(2, many - 1):
                for lot in itertools.combinations(range(1, many), size):
                    rest = [valley for valley in range(many) if valley not in lot]
                    pairs = itertools.product(itertools.combinations(lot, 2), itertools.combinations(rest, 2))
                    self.assertIs(lot in partings(tree), all(written(*pair) in told for pair in pairs))

    def test_few_and_many_valleys(self):
        for many in (1, 2, 3):
            for tree in normal_trees(many):
                self.same(quartets(tree), ())
        self.assertEqual(len(quartets(grown_twelve())), 495)
        self.same(quartets(Tree((), (0,) * 12)), ())


class AreQuartets(Case):
    def test_examples(self):
        self.assertIs(are_quartets(5, ONE), False)
        self.assertIs(are_quartets(5, FIVE), True)
        self.assertIs(are_quartets(4, ONE), True)

    def test_all_lots_of_four_valleys(self):
        every = all_quartets(4)
        of_trees = {quartets(tree) for tree in normal_trees(4)}
        self.assertEqual(len(of_trees), 4)
        for size in range(4):
            for lots in itertools.combinations(every, size):
                self.assertIs(are_quartets(4, lots), lots in of_trees)

    def test_all_lots_of_five_valleys(self):
        every = all_quartets(5)
        of_trees = {quartets(tree) for tree in all_trees(5)}
        told = 0
        for number in range(1 << 15):
            lots = tuple(quartet for place, quartet in enumerate(every) if number >> place & 1)
            is_told = are_quartets(5, lots)
            self.assertIs(is_told, lots in of_trees)
            told += is_told
        self.assertEqual(told, len(of_trees))

    def test_against_the_rules_by_words(self):
        dice = random.Random(2204)
        found = {}
        trees = {4: normal_trees(4), 5: all_trees(5)}
        for _ in range(300):
            many = dice.choice((4, 5, 5, 6))
            tree = dice.choice(trees[min(many, 5)])
            if many == 6:
                tree = grown(Tree((), (0,) * 6))
            lots = list(quartets(tree))
            for _ in range(dice.randrange(3)):
                quartet = dice.choice(all_quartets(many))
                lots = [other for other in lots if other != quartet] + [quartet] * (quartet not in lots)
            lots = tuple(sorted(lots))
            broken = broken_rules(many, lots)
            self.assertIs(are_quartets(many, lots), broken == set())
            found[tuple(sorted(broken))] = lots
        self.assertTrue({(), (1,), (3,)} <= set(found), set(found))
        # Rules (1) and (3) together imply rule (2).
        self.assertNotIn((2,), found)

    def test_each_rule_alone(self):
        three = tuple(all_quartets(4))
        self.assertEqual(broken_rules(4, three), {1})
        self.assertIs(are_quartets(4, three), False)
        self.assertIs(are_quartets(4, three[:2]), False)
        everything = tuple(all_quartets(5))
        self.assertEqual(broken_rules(5, everything), {1})
        self.assertIs(are_quartets(5, everything), False)
        self.assertEqual(broken_rules(5, ONE), {3})
        self.assertIs(are_quartets(5, ONE), False)
        # 01|23 and 01|24 ask for 01|34 by rule (2).
        self.assertIn(2, broken_rules(5, FIVE[:2]))
        self.assertIs(are_quartets(5, FIVE[:2]), False)

    def test_written_otherwise(self):
        for lots in (FIVE, quartets(grown_twelve())[::-1], quartets(grown(Tree((), (0,) * 6)))):
            many = 1 + max(max(one + other) for one, other in lots)
            lots = tuple(sorted(lots))
            self.assertIs(are_quartets(many, lots), True)
            for index in range(0, len(lots), 1 + len(lots) // 5):
                one, other = lots[index]
                for turned in ((other, one), (one[::-1], other), (one, other[::-1]), [one, other], (list(one), other)):
                    changed = lots[:index] + (turned,) + lots[index + 1:]
                    self.assertIs(are_quartets(many, changed), False)
                    self.refused(BadQuartets, tree_of_quartets, many, changed)
                self.assertIs(are_quartets(many, lots[:index] + lots[index:index + 1] + lots[index:]), False)
            self.assertIs(are_quartets(many, lots[::-1]), False)
            self.assertIs(are_quartets(many, list(lots)), False)

    def test_any_value(self):
        for many in (1, 4, 5, 12):
            for value in any_values():
                self.assertIs(are_quartets(many, value), value == () and isinstance(value, tuple), value)
        for value in spoiled(ONE):
            self.assertIs(are_quartets(4, value), value == () and isinstance(value, tuple), value)
        for value in spoiled(FIVE):
            self.assertIs(are_quartets(5, value), value == () and isinstance(value, tuple), value)
        self.assertIs(are_quartets(4, (((0, True), (2, 3)),)), False)
        self.assertIs(are_quartets(4, (((False, 1), (2, 3)),)), False)

    def test_valleys_that_are_not_there(self):
        self.assertIs(are_quartets(3, ONE), False)
        self.assertIs(are_quartets(4, FIVE), False)
        self.assertIs(are_quartets(6, FIVE), False)

    def test_bad_many(self):
        for value in wrong_values(range(1, 13)):
            self.refused(BadMany, are_quartets, value, ())
            self.refused(BadMany, tree_of_quartets, value, None)
        for value in (True, 0, 13, -1, "4", (4,), 1.0):
            self.refused(BadMany, are_quartets, value, FIVE)


class TreeOfQuartets(Case):
    def test_examples(self):
        self.same(tree_of_quartets(5, FIVE), tree_of(5, ((2, 3, 4),)))
        self.same(tree_of_quartets(4, ONE), tree_of(4, ((2, 3),)))

    def test_back_from_all_trees(self):
        for many in (1, 2, 3, 4, 5):
            for tree in all_trees(many):
                told = tree_of_quartets(many, quartets(tree))
                self.same(told, tree_of(many, inner(tree)))

    def test_back_from_any_tree(self):
        sizes = set()
        for tree in some_trees(2205):
            many = len(tree.seats)
            told = tree_of_quartets(many, quartets(tree))
            self.same(told, tree_of(many, inner(tree)))
            self.same(told, normal(told))
            self.same(quartets(told), quartets(tree))
            sizes.add(many)
        self.assertTrue({6, 8, 12} <= sizes, sizes)

    def test_without_quartets(self):
        for many in range(1, 13):
            self.same(tree_of_quartets(many, ()), Tree((), (0,) * many))
        self.same(tree_of_quartets(12, quartets(grown_twelve())), tree_of(12, inner(grown_twelve())))

    def test_bad_quartets(self):
        for value in any_values() + spoiled(FIVE) + [ONE, FIVE[:2], FIVE[::-1], list(FIVE)]:
            if not (value == () and isinstance(value, tuple)):
                self.refused(BadQuartets, tree_of_quartets, 5, value)


if __name__ == "__main__":
    unittest.main()

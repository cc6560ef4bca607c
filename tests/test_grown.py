"""Point 71: free partings, grown trees, how many and which are finer than a tree."""

import random
import unittest

from oncefound.chooser import fitting_tree
from oncefound.errors import BadTree, TooMany
from oncefound.grown import all_grown, grown, grown_many, is_grown, partings_free
from oncefound.listing import all_trees, fitting, only
from oncefound.pieces import fits
from oncefound.splits import table_of
from oncefound.trees import Tree, added, alike, finer, joined, normal, partings, tree_of
from oracles import cross, grown_twelve, lots_of, normal_trees, renumbered
from samples import Case, any_values, crowded_tables, random_trees, tree_t

ALL = (partings_free, is_grown, grown, grown_many, all_grown)


def free_by_words(tree):
    """All partings that are none of the tree's and cross none of them."""
    own = partings(tree)
    lots = [lot for lot in lots_of(len(tree.seats)) if lot not in own]
    return tuple(lot for lot in lots if not any(cross(lot, other) for other in own))


def many_by_places(tree):
    """The product of the odd numbers from 1 to 2 * k - 5 for the ties and valleys of each place."""
    many = 1
    for place in range(len(tree.ties) + 1):
        around = sum(tie.count(place) for tie in tree.ties) + tree.seats.count(place)
        for odd in (1, 3, 5, 7, 9, 11, 13, 15, 17, 19):
            if odd <= 2 * around - 5:
                many *= odd
    return many


def grown_of(many):
    return [tree for tree in all_trees(many) if free_by_words(tree) == ()]


def random_and_normal(seed, times=60):
    """Trees numbered in any way, valleys that share places, lost places; and all normal ones of few valleys."""
    for dice, tree in random_trees(seed, times):
        if len(tree.seats) <= 8 or dice.random() < 0.1:
            yield tree
            if dice.random() < 0.3:
                full = grown(tree)
                yield renumbered(full, dice.sample(range(len(full.ties) + 1), len(full.ties) + 1))
    for many in (1, 2, 3, 4):
        yield from normal_trees(many)


class Free(Case):
    def test_examples(self):
        tree = tree_of(4, ((2, 3),))
        self.same(partings_free(tree), ((1,), (1, 2, 3), (2,), (3,)))
        self.same(partings_free(tree_of(4, ())), ((1,), (1, 2), (1, 2, 3), (1, 3), (2,), (2, 3), (3,)))
        self.same(partings_free(tree_t()), ((1, 2, 3),))

    def test_against_the_words(self):
        found = set()
        for tree in random_and_normal(2001):
            told = partings_free(tree)
            self.same(told, free_by_words(tree))
            self.assertIs(is_grown(tree), told == ())
            found.add((is_grown(tree), len(tree.seats) > 5))
        self.assertEqual(len(found), 4)
        for tree in all_trees(5)[::9]:
            self.same(partings_free(tree), free_by_words(tree))

    def test_each_free_parting_can_be_added_and_no_other(self):
        for tree in normal_trees(4):
            for lot in partings_free(tree):
                self.same(partings(added(tree, lot)), tuple(sorted(partings(tree) + (lot,))))

    def test_one_two_three_and_twelve_valleys(self):
        self.same(partings_free(Tree((), (0,))), ())
        self.same(partings_free(Tree((), (0, 0))), ((1,),))
        self.same(partings_free(Tree(((0, 1),), (1, 0))), ())
        self.same(partings_free(Tree((), (0, 0, 0))), ((1,), (1, 2), (2,)))
        self.same(partings_free(grown_twelve()), ())
        bare = partings_free(Tree((), (0,) * 12))
        self.assertEqual(len(bare), 2047)
        self.same(bare, tuple(lots_of(12)))


class IsGrown(Case):
    def test_by_the_number_of_ties(self):
        for tree in random_and_normal(2002):
            many = len(tree.seats)
            self.assertIs(is_grown(tree), len(tree.ties) == 2 * many - 3 or many == 1)

    def test_one_parting_short(self):
        for many in (2, 3, 4, 5):
            for tree in grown_of(many):
                self.assertIs(is_grown(tree), True)
                for tie in tree.ties:
                    short = joined(tree, tie)
                    self.assertIs(is_grown(short), False)
                    self.assertTrue(partings_free(short))
        self.assertIs(is_grown(grown_twelve()), True)
        self.assertIs(is_grown(joined(grown_twelve(), grown_twelve().ties[7])), False)

    def test_one_valley(self):
        self.assertIs(is_grown(Tree((), (0,))), True)
        self.same(all_grown(Tree((), (0,))), [Tree((), (0,))])
        self.same(grown(Tree((), (0,))), Tree((), (0,)))
        self.same(grown_many(Tree((), (0,))), 1)

    def test_two_customs_tables_of_grown_trees_fit_one_tree(self):
        for many in (1, 2, 3, 4):
            for tree in normal_trees(many):
                self.assertIs(len(fitting(table_of(tree))) == 1, is_grown(tree))
        for tree in all_trees(5)[::13] + all_grown(tree_of(5, ())):
            self.assertIs(len(fitting(table_of(tree))) == 1, is_grown(tree))

    def test_what_only_tells_is_grown(self):
        some = 0
        for _, table in crowded_tables(2003, 200, (1, 2, 3, 4), (1, 2, 3, 4), 4, (0, 0.2)):
            tree = only(table)
            if tree is not None:
                self.assertIs(is_grown(tree), True)
                some += 1
        self.assertTrue(some > 10, some)

    def test_what_is_finer_than_a_grown_tree_is_alike(self):
        for many in (1, 2, 3, 4):
            for tree in grown_of(many):
                for other in normal_trees(many):
                    self.assertIs(finer(other, tree), alike(other, tree))


class Grown(Case):
    def test_it_is_normal_and_grown_and_finer(self):
        for tree in random_and_normal(2004):
            told = grown(tree)
            self.assertEqual(free_by_words(told), ())
            self.assertIs(finer(told, tree), True)
            self.same(told, normal(told))

    def test_a_grown_tree_itself(self):
        turned = renumbered(grown_twelve(), tuple(range(21, -1, -1)))
        self.same(grown(turned), normal(turned))
        self.same(all_grown(turned), [normal(turned)])
        self.assertEqual(grown_many(turned), 1)

    def test_some_grown_tree_fits_where_some_tree_does(self):
        for _, table in crowded_tables(2005, 60, (3, 4, 6, 9, 12), (1, 2, 3, 4), 4, (0, 0.3)):
            tree = fitting_tree(table)
            if tree is not None:
                self.assertIs(fits(grown(tree), table), True)


class AllGrown(Case):
    def test_examples(self):
        tree = tree_of(4, ((2, 3),))
        self.same(all_grown(tree), [tree_of(4, ((1,), (1, 2, 3), (2,), (2, 3), (3,)))])
        self.assertEqual(grown_many(tree), 1)
        rest = ((1,), (1, 2, 3), (2,), (3,))
        wanted = [tree_of(4, tuple(sorted(rest + (lot,)))) for lot in ((1, 2), (1, 3), (2, 3))]
        self.same(all_grown(tree_of(4, ())), wanted)
        self.same(grown_many(tree_of(4, ())), 3)

    def test_how_many_there_are(self):
        many = [grown_many(Tree((), (0,) * valleys)) for valleys in range(1, 13)]
        self.same(many, [1, 1, 1, 3, 15, 105, 945, 10395, 135135, 2027025, 34459425, 654729075])

    def test_against_all_trees(self):
        for many in (1, 2, 3, 4):
            for tree in normal_trees(many):
                wanted = [other for other in grown_of(many) if finer(other, tree)]
                self.same(all_grown(tree), wanted)
                self.same(grown_many(tree), len(wanted))
        trees = grown_of(5)
        self.assertEqual(len(trees), 15)
        for tree in all_trees(5)[::5]:
            wanted = [other for other in trees if finer(other, tree)]
            self.same(all_grown(tree), wanted)
            self.same(grown_many(tree), len(wanted))

    def test_any_trees(self):
        found = set()
        for tree in random_and_normal(2006, 120):
            many = many_by_places(tree)
            self.same(grown_many(tree), many)
            if many > 105:
                self.refused(TooMany, all_grown, tree, told={"most": 105})
                continue
            told = all_grown(tree)
            self.assertEqual(len(told), many)
            lots = [partings(other) for other in told]
            self.assertEqual(lots, sorted(set(lots)))
            for other in told:
                self.assertEqual(free_by_words(other), ())
                self.assertIs(finer(other, tree), True)
                self.same(other, normal(other))
            found.add(many)
        self.assertTrue({1, 3, 9} <= found, found)

    def test_what_all_of_them_have(self):
        for tree in random_and_normal(2007):
            many = len(tree.seats)
            if 1 < many and grown_many(tree) <= 105:
                shared = set.intersection(*[set(partings(other)) for other in all_grown(tree)])
                lone = {(valley,) for valley in range(1, many)} | {tuple(range(1, many))}
                self.assertEqual(shared, set(partings(tree)) | lone)

    def test_105_and_more(self):
        six = Tree((), (0,) * 6)
        lots = [partings(tree) for tree in all_grown(six)]
        self.assertEqual(len(lots), 105)
        self.assertEqual(lots, sorted(set(lots)))
        self.assertTrue(all(len(own) == 9 for own in lots))
        # Six at one place, all others in threes.
        tails = [tuple(range(first, 12)) for first in range(5, 11)]
        twelve = tree_of(12, tuple(sorted(tails + [(valley,) for valley in range(1, 12)])))
        self.assertEqual(grown_many(twelve), 105)
        self.assertEqual(len(all_grown(twelve)), 105)
        # Four at each of four places: 81; five and four and four: 135.
        four = tree_of(10, ((1, 2, 3), (4, 5, 6), (7, 8, 9)))
        self.assertEqual(grown_many(four), 81)
        self.assertEqual(len({partings(tree) for tree in all_grown(four)}), 81)
        more = tree_of(9, ((1, 2, 3), (4, 5, 6)))
        self.assertEqual(grown_many(more), 3 * 3 * 15)
        self.refused(TooMany, all_grown, more, told={"most": 105})
        self.refused(TooMany, all_grown, Tree((), (0,) * 7), told={"most": 105})
        self.refused(TooMany, all_grown, Tree((), (0,) * 12), told={"most": 105})

    def test_lists_are_new(self):
        tree = tree_of(5, ())
        all_grown(tree).clear()
        self.assertEqual(len(all_grown(tree)), 15)

    def test_numbers_of_places_make_no_difference(self):
        dice = random.Random(2008)
        for _, tree in random_trees(2009, 40):
            numbers = dice.sample(range(len(tree.ties) + 1), len(tree.ties) + 1)
            other = renumbered(tree, numbers)
            self.same(partings_free(other), partings_free(tree))
            self.same(grown_many(other), grown_many(tree))
            if grown_many(tree) <= 105:
                self.same(all_grown(other), all_grown(tree))


class Errors(Case):
    def test_bad_tree(self):
        for function in ALL:
            for value in any_values():
                if not isinstance(value, Tree):
                    self.refused(BadTree, function, value)


if __name__ == "__main__":
    unittest.main()

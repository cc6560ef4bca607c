"""Point 21: pieces of customs, and trees that fit."""

import random
import unittest

from oncefound.errors import BadCustom, BadMatter, BadTable, BadTree, OtherMany
from oncefound.pieces import clash, fits, piece
from oncefound.tables import Table, used
from oncefound.trees import Tree, finer, normal, tree_of
from oracles import clashes, grown_twelve, normal_trees, places_of, renumbered
from samples import Case, any_values, random_history, random_table, random_tree, table_a, tree_t, wrong_values

LINE = ((0, 1), (1, 2), (2, 3))


def table_p():
    """The table of the example of point 21 that fits tree_t."""
    return Table((2, 3), ((0, 0), (0, None), (1, 1), (1, 2)))


def table_q():
    """The table of the example of point 21 that does not fit tree_t."""
    return Table((2, 3), ((0, 0), (1, None), (1, 1), (0, 2)))


def random_pairs(seed, times=150):
    """Trees with tables of as many valleys, about half of which fit."""
    dice = random.Random(seed)
    for _ in range(times):
        tree = random_tree(dice)
        yield dice, tree, random_history(dice, tree)[0]
        yield dice, tree, random_table(dice, matters=dice.choice((1, 2, 8)), valleys=len(tree.seats), unread=0.5)


class Pieces(Case):
    def test_example(self):
        self.same([piece(tree_t(), table_p(), 0, custom) for custom in (0, 1)], [(0, 1), (2, 3, 4)])
        self.same([piece(tree_t(), table_p(), 1, custom) for custom in (0, 1, 2)], [(0,), (2,), (4,)])

    def test_places_between_the_seats(self):
        table = Table((2,), ((0,), (1,), (1,), (0,)))
        self.same(piece(Tree(LINE, (0, 1, 2, 3)), table, 0, 0), (0, 1, 2, 3))
        self.same(piece(Tree(LINE, (0, 1, 2, 3)), table, 0, 1), (1, 2))
        self.same(piece(Tree(LINE, (3, 0, 1, 2)), table, 0, 0), (2, 3))
        self.same(piece(Tree(LINE, (3, 0, 1, 2)), table, 0, 1), (0, 1))

    def test_lost_places_are_in_pieces(self):
        star = Tree(((0, 3), (1, 3), (2, 3)), (0, 1, 2))
        self.same(piece(star, Table((2,), ((1,), (0,), (1,))), 0, 1), (0, 2, 3))
        self.same(piece(star, Table((1,), ((0,), (0,), (0,))), 0, 0), (0, 1, 2, 3))
        self.same(piece(star, Table((1,), ((0,), (None,), (None,))), 0, 0), (0,))

    def test_one_valley_and_several_at_one_place(self):
        self.same(piece(Tree((), (0,)), Table((6,), ((5,),)), 0, 5), (0,))
        crowd = Tree((), (0,) * 12)
        table = Table((2,) * 8, ((0,) * 8,) * 6 + ((1,) * 8,) * 6)
        for matter in range(8):
            self.same([piece(crowd, table, matter, custom) for custom in (0, 1)], [(0,), (0,)])

    def test_against_what_the_words_say(self):
        for _, tree, table in random_pairs(301):
            for matter in range(len(table.kinds)):
                for custom in used(table, matter):
                    wanted = tuple(sorted(places_of(tree, table, matter, custom)))
                    self.same(piece(tree, table, matter, custom), wanted)

    def test_customs_that_are_not_used(self):
        table = Table((6, 3), ((5, 0), (2, None), (5, 0), (2, 0)))
        self.same(piece(tree_t(), table, 0, 5), (0, 2, 3))
        for custom in wrong_values([2, 5]):
            self.refused(BadCustom, piece, tree_t(), table, 0, custom)
        for custom in wrong_values([0]):
            self.refused(BadCustom, piece, tree_t(), table, 1, custom)


class Fits(Case):
    def test_example(self):
        self.same((fits(tree_t(), table_p()), clash(tree_t(), table_p())), (True, None))
        self.same((fits(tree_t(), table_q()), clash(tree_t(), table_q())), (False, (0, 0, 1, 0)))

    def test_the_least_clash(self):
        tree = Tree(LINE, (0, 1, 2, 3))
        self.same(clash(tree, Table((1, 3), ((0, 1), (0, 2), (0, 1), (0, 2)))), (1, 1, 2, 1))
        self.same(clash(tree, Table((3,), ((2,), (0,), (1,), (2,)))), (0, 0, 2, 1))
        self.same(clash(tree, Table((4,), ((3,), (1,), (3,), (1,)))), (0, 1, 3, 1))
        self.same(clash(tree, Table((6, 2), ((5, 0), (4, 1), (4, 0), (5, 1)))), (0, 4, 5, 1))
        self.same(clash(Tree(LINE, (3, 2, 1, 0)), Table((6,), ((0,), (1,), (0,), (1,)))), (0, 0, 1, 1))

    def test_trees_without_ties(self):
        for many in (1, 2, 12):
            tree = Tree((), (0,) * many)
            self.same(fits(tree, Table((6,) * 8, ((5,) * 8,) * many)), True)
            self.same(fits(tree, Table((6,) * 8, ((5,) * 8,) + ((None,) * 8,) * (many - 1))), True)
        self.same(clash(Tree((), (0, 0)), Table((1, 2), ((0, 0), (0, 1)))), (1, 0, 1, 0))
        self.same(clash(Tree((), (0, 0, 0)), Table((1, 3), ((None, 2), (0, None), (0, 1)))), (1, 1, 2, 0))
        self.same(fits(Tree((), (0, 0)), Table((2, 2), ((0, None), (None, 1)))), True)

    def test_21_ties(self):
        tree = grown_twelve()
        own = Table((6, 6), tuple((valley // 2, (11 - valley) // 3) for valley in range(12)))
        self.same((fits(tree, own), clash(tree, own)), (True, None))
        other = Table((6, 6), tuple((valley // 2, valley // 3 if valley != 11 else 0) for valley in range(12)))
        self.same(fits(tree, other), False)
        self.same(clash(tree, other), clashes(tree, other)[0])

    def test_one_used_custom_alone_never_clashes(self):
        for dice, tree in [(dice, tree) for dice, tree, _ in random_pairs(302, 20)]:
            rows = [[dice.choice((4, None))] for _ in tree.seats]
            rows[dice.randrange(len(rows))] = [4]
            table = Table((6,), tuple(map(tuple, rows)))
            self.same((fits(tree, table), clash(tree, table)), (True, None))

    def test_against_what_the_words_say(self):
        fitting = 0
        for _, tree, table in random_pairs(303):
            found = clashes(tree, table)
            self.same(clash(tree, table), found[0] if found else None)
            self.same(fits(tree, table), not found)
            fitting += not found
        self.assertTrue(100 < fitting < 280, fitting)

    def test_alike_trees_fit_alike(self):
        for dice, tree, table in random_pairs(304, 60):
            numbers = dice.sample(range(len(tree.ties) + 1), len(tree.ties) + 1)
            self.same(fits(renumbered(tree, numbers), table), fits(tree, table))
            self.same(fits(normal(tree), table), fits(tree, table))

    def test_what_is_finer_than_one_that_fits_fits(self):
        dice = random.Random(305)
        for many in (1, 2, 3, 4):
            for _ in range(6):
                table = random_table(dice, matters=dice.choice((1, 2)), valleys=many, unread=0.4)
                trees = normal_trees(many)
                fitting = [tree for tree in trees if fits(tree, table)]
                for tree in fitting:
                    for other in trees:
                        if finer(other, tree):
                            self.assertIs(fits(other, table), True)


class Errors(Case):
    def test_tree_then_table_then_other_many_then_the_rest(self):
        small = Table((2,), ((0,), (1,)))
        for function, rest in ((piece, (9, 9)), (fits, ()), (clash, ())):
            for value in any_values():
                if not isinstance(value, Tree):
                    self.refused(BadTree, function, value, value, *rest)
                    self.refused(BadTree, function, value, small, *rest)
                if not isinstance(value, Table):
                    self.refused(BadTable, function, tree_t(), value, *rest)
            self.refused(OtherMany, function, tree_t(), small, *rest)
            self.refused(OtherMany, function, tree_of(5, ()), table_a(), *rest)
        for matter in wrong_values([0, 1]):
            self.refused(BadMatter, piece, tree_t(), table_p(), matter, None)
        self.refused(BadMatter, piece, tree_t(), table_p(), True, 0)
        self.refused(BadCustom, piece, tree_t(), table_p(), 0, True)
        self.refused(BadCustom, piece, tree_t(), table_p(), 0, False)
        self.refused(BadCustom, piece, tree_t(), table_p(), 1, None)


if __name__ == "__main__":
    unittest.main()

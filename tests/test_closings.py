"""Point 52: closings, where they come from and the trees that they give."""

import itertools
import random
import unittest

from oncefound.chooser import fitting_tree, some_fit
from oncefound.closings import closing, closing_of, is_closing, tree_of_closing
from oncefound.errors import BadClosing, BadFilling, BadTable, BadTree, OtherMany
from oncefound.fillings import filling
from oncefound.pieces import fits
from oncefound.tables import Table, is_full
from oncefound.trees import Tree, normal, partings, tree_of
from oncefound.web import marks, web
from oracles import had_together, legal_ties, normal_trees, open_ones, renumbered
from samples import Case, any_values, crowded_tables, random_history, random_tree, spoiled, table_a, tree_t
from samples import wrong_values
from test_facts import some_fits
from test_fillings import RIGHT
from test_pieces import table_p
from test_rings import ACROSS
from test_web import table_apart, table_square


def all_closings(table):
    """All closings of a table of few marks."""
    legal = legal_ties(table)
    for size in range(len(legal) + 1):
        for more in itertools.combinations(legal, size):
            if not open_ones(had_together(table) + list(more)):
                yield more


def few_marks(seed, times):
    for dice, table in crowded_tables(seed, times, (1, 2, 4, 5, 6), (1, 2, 3, 4), 3, (0, 0.2, 0.4)):
        if len(legal_ties(table)) <= 8 and len(marks(table)) <= 8:
            yield dice, table


class IsClosing(Case):
    def test_example(self):
        self.assertIs(is_closing(table_apart(), ACROSS), True)
        self.assertIs(is_closing(table_apart(), ()), False)
        self.assertIs(is_closing(table_square(), ()), False)

    def test_where_the_web_has_no_open_ring_nothing_is_needed(self):
        for table in (table_a(), Table((6,), ((4,),)), Table((1,) * 8, ((0,) * 8,) * 12)):
            self.assertIs(is_closing(table, ()), True)
            self.same(closing(table), ())

    def test_what_is_no_more_is_no_closing(self):
        for value in wrong_values([()]):
            self.assertIs(is_closing(table_a(), value), False)
            self.assertIs(is_closing(table_apart(), value), False)
        for thing in spoiled(ACROSS):
            self.assertIs(is_closing(table_apart(), thing), False, thing)

    def test_just_those_of_the_words(self):
        found = {True: 0, False: 0}
        for dice, table in few_marks(1301, 120):
            legal = legal_ties(table)
            right = list(all_closings(table))
            self.assertIs(bool(right), some_fit(table))
            for size in range(len(legal) + 1):
                for more in itertools.combinations(legal, size):
                    self.assertIs(is_closing(table, more), more in right)
                    found[more in right] += 1
            for more in right:
                if more:
                    self.assertIs(is_closing(table, more[::-1]), len(more) == 1)
        self.assertTrue(min(found.values()) > 100, found)


class Closing(Case):
    def test_example(self):
        self.same(closing(table_apart()), ACROSS)
        self.assertIs(closing(table_square()), None)

    def test_exactly_where_some_tree_fits_and_none_of_it_can_be_left_out(self):
        found = {}
        for _, table in crowded_tables(1302, 250, (1, 2, 3, 4, 4, 4, 4, 4), (2, 3, 4), 3, (0, 0.1, 0.2)):
            wanted = some_fits(table)
            more = closing(table)
            self.assertIs(more is not None, wanted)
            if wanted:
                self.assertIs(is_closing(table, more), True)
                self.assertEqual(open_ones(had_together(table) + list(more)), [])
                for size in range(len(more)):
                    for less in itertools.combinations(more, size):
                        self.assertIs(is_closing(table, less), False)
            key = (wanted, is_full(table))
            found[key] = found.get(key, 0) + 1
        self.assertTrue(len(found) == 4 and min(found.values()) > 10, found)

    def test_against_all_closings(self):
        for _, table in few_marks(1303, 120):
            right = list(all_closings(table))
            more = closing(table)
            if more is None:
                self.assertEqual(right, [])
            else:
                self.assertIn(more, right)
                self.assertFalse(any(set(less) < set(more) for less in right))

    def test_great_tables(self):
        sizes = []
        for _, table in crowded_tables(1304, 60, (8, 12), (6, 8), 6, (0.3, 0.55, 0.65, 0.75)):
            more = closing(table)
            self.assertIs(more is None, not some_fit(table))
            if more is not None:
                sizes.append(len(more))
                self.assertIs(is_closing(table, more), True)
                for tie in more:
                    self.assertIs(is_closing(table, tuple(other for other in more if other != tie)), False)
                self.assertIs(fits(tree_of_closing(table, more), table), True)
        self.assertTrue(len(sizes) > 10 and max(sizes) > 10, sizes)


class ClosingOf(Case):
    def test_by_hand(self):
        tree = Tree(((0, 1),), (0, 1, 1, 0))
        self.same(closing_of(tree, table_apart(), ((0, 0, 0), (1, 0, 0))), ACROSS)
        self.same(closing_of(tree_t(), table_p(), RIGHT), (((0, 1), (1, 0)),))
        self.same(closing_of(Tree((), (0,)), Table((2, 2), ((1, 1),)), ((1, 1),)), ())
        self.same(closing_of(Tree((), (0, 0)), Table((6, 6), ((5, None), (None, 3))), ((5, 3),)), (((0, 5), (1, 3)),))

    def test_it_is_a_closing_that_gives_a_tree_that_fits(self):
        dice = random.Random(1305)
        for _ in range(80):
            tree = random_tree(dice, 16)
            table, history = random_history(dice, tree, 5, 5, dice.choice((0, 0.3, 0.6)))
            rows = filling(tree, table)
            numbers = dice.sample(range(len(rows)), len(rows))
            turned = tuple(rows[numbers.index(place)] for place in range(len(rows)))
            more = closing_of(tree, table, rows)
            pairs = {pair for row in rows for pair in itertools.combinations(enumerate(row), 2)}
            self.same(more, tuple(sorted(pair for pair in legal_ties(table) if pair in pairs)))
            self.same(closing_of(renumbered(tree, numbers), table, turned), more)
            self.assertIs(is_closing(table, more), True)
            told = tree_of_closing(table, more)
            self.same(told, normal(told))
            self.assertIs(fits(told, table), True)

    def test_not_a_filling(self):
        twice = ((0, 0), (0, 1), (1, 1), (1, 0), (1, 2))
        for rows in [twice] + spoiled(RIGHT) + any_values():
            self.refused(BadFilling, closing_of, tree_t(), table_p(), rows)


class TreeOfClosing(Case):
    def test_example(self):
        self.same(tree_of_closing(table_apart(), ACROSS), tree_of(4, ((1, 2),)))

    def test_a_tree_without_ties_and_valleys_of_which_nothing_is_read(self):
        self.same(tree_of_closing(Table((6,), ((4,),)), ()), Tree((), (0,)))
        self.same(partings(tree_of_closing(Table((1,) * 8, ((0,) * 8,) * 12), ())), ())
        table = Table((3, 3), ((None, None), (0, None), (None, None), (1, 2), (None, None)))
        self.assertIs(fits(tree_of_closing(table, ()), table), True)

    def test_all_closings_give_trees_that_fit(self):
        some = 0
        for _, table in few_marks(1306, 120):
            for more in all_closings(table):
                tree = tree_of_closing(table, more)
                self.same(tree, normal(tree))
                self.assertIs(fits(tree, table), True)
                some += 1
        self.assertTrue(some > 200, some)

    def test_closings_of_trees_that_fit(self):
        for _, table in crowded_tables(1307, 40, (4,), (2, 3), 3, (0, 0.3)):
            for tree in normal_trees(4):
                if fits(tree, table):
                    more = closing_of(tree, table, filling(tree, table))
                    self.assertIs(is_closing(table, more), True)
                    self.assertIs(fits(tree_of_closing(table, more), table), True)


class Errors(Case):
    def test_bad_table_and_bad_closing(self):
        for value in any_values():
            if not isinstance(value, Table):
                self.refused(BadTable, is_closing, value, ())
                self.refused(BadTable, closing, value)
                self.refused(BadTable, tree_of_closing, value, None)
        for value in wrong_values([]):
            self.refused(BadClosing, tree_of_closing, table_apart(), value)
            self.refused(BadClosing, tree_of_closing, table_square(), value)
        for value in spoiled(ACROSS):
            self.refused(BadClosing, tree_of_closing, table_apart(), value)
        self.refused(BadClosing, tree_of_closing, table_apart(), web(table_apart())[:1])
        # Ties with which a ring has no tie across are ties as they should be, but no closing.
        self.refused(BadClosing, tree_of_closing, table_apart(), ())

    def test_the_parameters_of_closing_of(self):
        for value in any_values():
            if not isinstance(value, Tree):
                self.refused(BadTree, closing_of, value, value, value)
            if not isinstance(value, Table):
                self.refused(BadTable, closing_of, tree_t(), value, value)
            self.refused(OtherMany, closing_of, Tree((), (0,)), table_p(), value)
        self.refused(BadFilling, closing_of, tree_of(4, ()), table_p(), ((0, 0),))
        # Unread cells are no error.
        self.assertIs(is_full(table_p()), False)
        self.assertIs(is_closing(table_p(), closing_of(tree_t(), table_p(), RIGHT)), True)
        self.assertIs(fits(fitting_tree(table_p()), table_p()), True)


if __name__ == "__main__":
    unittest.main()

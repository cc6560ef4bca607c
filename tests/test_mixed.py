"""Point 72: mixtures, valleys that took each custom from one of two places."""

import itertools
import random
import unittest

from oncefound.changing import kept, picked
from oncefound.chooser import some_fit
from oncefound.errors import BadTable, BadValley, NoFit, TooMany, Unread
from oncefound.fillings import filling, is_filling
from oncefound.listing import all_trees
from oncefound.mixed import is_mixture, mixture
from oncefound.pieces import fits
from oncefound.tables import Table, having, used
from oncefound.trees import Tree
from oracles import columns_of, normal_trees, renumbered
from samples import Case, any_values, crowded_tables, random_history, random_tree, spoiled, table_a, wrong_values

SQUARE = Table((2, 2), ((0, 0), (0, 1), (1, 0), (1, 1)))
MIXTURE = (Tree(((0, 1), (0, 2)), (0, 1, 2)), ((0, 0), (0, 1), (1, 0)), 1, 2)
LONE = Table((2, 2, 2), ((0, 0, 0), (1, 0, 0), (0, 1, 0), (0, 0, 1), (1, 1, 1)))


def others_of(table, valley):
    rows = table.rows[:valley] + table.rows[valley + 1:]
    return Table(table.kinds, rows)


def all_fillings(tree, table):
    columns = [columns_of(tree, table, matter) for matter in range(len(table.kinds))]
    return [tuple(zip(*some)) for some in itertools.product(*columns)]


def mixtures(table, valley):
    """All mixtures of a valley with normal trees, by trying all trees, fillings and pairs of places."""
    others = others_of(table, valley)
    own = table.rows[valley]
    for tree in normal_trees(len(others.rows)):
        if fits(tree, others):
            for rows in all_fillings(tree, others):
                places = range(len(rows))
                for one, other in itertools.product(places, repeat=2):
                    if all(cell in cells for cell, cells in zip(own, zip(rows[one], rows[other]))):
                        yield (tree, rows, one, other)


def has_own_custom(table, valley):
    """Whether the valley has a custom that no other valley has."""
    return any(having(table, matter, cell) == (valley,) for matter, cell in enumerate(table.rows[valley]))


def full_tables(seed, times, valleys, matters=(1, 2, 3), most_kind=4):
    return crowded_tables(seed, times, valleys, matters, most_kind)


def are_near(tree, one, other):
    return one == other or tuple(sorted((one, other))) in tree.ties


class Mixture(Case):
    def test_examples(self):
        told = mixture(SQUARE, 3)
        self.assertIs(is_mixture(SQUARE, 3, told), True)
        self.assertIs(is_mixture(SQUARE, 3, MIXTURE), True)
        self.assertFalse(are_near(told[0], told[2], told[3]))
        self.assertIs(mixture(LONE, 4), None)
        self.assertIs(mixture(Table((2,), ((0,), (1,))), 1), None)

    def test_against_all_trees_and_fillings(self):
        found = {}
        for dice, table in full_tables(2101, 150, (2, 3, 4, 5)):
            valley = dice.randrange(len(table.rows))
            if not some_fit(others_of(table, valley)):
                self.refused(NoFit, mixture, table, valley)
                continue
            told = mixture(table, valley)
            first = next(mixtures(table, valley), None)
            self.assertIs(told is None, first is None)
            if told is not None:
                self.assertIs(is_mixture(table, valley, told), True)
                tree, rows, one, other = told
                self.assertIn((one, other), list(itertools.product(range(len(tree.ties) + 1), repeat=2)))
                self.assertIs(is_filling(tree, others_of(table, valley), rows), True)
            key = (told is None, some_fit(table))
            found[key] = found.get(key, 0) + 1
        self.assertEqual(len(found), 4, found)

    def test_six_valleys(self):
        found = set()
        for dice, others in full_tables(2102, 60, (5,), (2, 3, 4, 5)):
            valley = dice.randrange(6)
            row = tuple(dice.choice(used(others, matter)) for matter in range(len(others.kinds)))
            table = Table(others.kinds, others.rows[:valley] + (row,) + others.rows[valley:])
            trees = [tree for tree in all_trees(5) if fits(tree, others)]
            if not trees:
                self.refused(NoFit, mixture, table, valley)
                continue
            told = mixture(table, valley)
            if told is not None:
                self.assertIs(is_mixture(table, valley, told), True)
            elif not has_own_custom(table, valley):
                # No two places of a filling of the least trees serve, since no mixture is there.
                for tree in trees[:3]:
                    rows = filling(tree, others)
                    for one, other in itertools.product(range(len(rows)), repeat=2):
                        self.assertIs(is_mixture(table, valley, (tree, rows, one, other)), False)
            if some_fit(table):
                self.assertIs(told is None, has_own_custom(table, valley))
            found.add((told is None, some_fit(table)))
        self.assertEqual(found, {(False, True), (False, False), (True, False)})

    def test_places_that_are_one_or_joined_exactly_if_some_tree_fits(self):
        found = {}
        for dice, table in full_tables(2103, 60, (2, 3, 4), (1, 2, 3), 3):
            valley = dice.randrange(len(table.rows))
            every = list(mixtures(table, valley))
            near = [told for told in every if are_near(told[0], told[2], told[3])]
            self.assertIs(bool(near), some_fit(table) and not has_own_custom(table, valley))
            if some_fit(table):
                self.assertIs(mixture(table, valley) is None, has_own_custom(table, valley))
            elif every:
                self.assertEqual(near, [])
            found[bool(near), bool(every)] = True
        self.assertEqual(len(found), 3, found)

    def test_no_mixture_where_a_custom_is_its_own(self):
        some = 0
        for dice, table in full_tables(2104, 60, (2, 3, 4, 5, 6), (1, 2), 4):
            valley = dice.randrange(len(table.rows))
            matter = dice.randrange(len(table.kinds))
            rows = [list(row) for row in table.rows]
            rows[valley][matter] = 5
            lone = Table(table.kinds[:matter] + (6,) + table.kinds[matter + 1:], tuple(map(tuple, rows)))
            if some_fit(others_of(lone, valley)):
                self.assertIs(mixture(lone, valley), None)
                some += 1
        self.assertTrue(some > 20, some)

    def test_fewer_matters(self):
        some = 0
        for dice, table in full_tables(2105, 60, (3, 4, 5, 6), (2, 3, 4)):
            valley = dice.randrange(len(table.rows))
            if some_fit(others_of(table, valley)) and mixture(table, valley) is not None:
                tree, rows, one, other = mixture(table, valley)
                for size in range(1, len(table.kinds)):
                    for lot in itertools.combinations(range(len(table.kinds)), size):
                        fewer = tuple(tuple(row[matter] for matter in lot) for row in rows)
                        self.assertIs(is_mixture(kept(table, lot), valley, (tree, fewer, one, other)), True)
                        some += 1
        self.assertTrue(some > 50, some)

    def test_one_tree_that_fits_may_serve_where_another_does_not(self):
        table = Table((3, 3, 3), ((1, 1, 1), (2, 0, 0), (0, 2, 2), (0, 0, 0), (1, 1, 1), (1, 2, 0)))
        served = {}
        for told in mixtures(table, 5):
            served[repr(told[0].ties) + repr(told[0].seats)] = told
        trees = [tree for tree in all_trees(5) if fits(tree, others_of(table, 5))]
        full = [tree for tree in trees if len(tree.ties) == 7]
        self.assertEqual(len([tree for tree in full if repr(tree.ties) + repr(tree.seats) in served]), 2)
        self.assertEqual(len(full), 3)
        self.assertIs(is_mixture(table, 5, mixture(table, 5)), True)

    def test_a_place_that_is_no_seat_is_needed(self):
        # Three valleys with two of three 1s each: only their middle has all.
        rows = ((1, 1, 0), (1, 0, 1), (0, 1, 1), (1, 1, 1))
        told = mixture(Table((2, 2, 2), rows), 3)
        self.assertIs(is_mixture(Table((2, 2, 2), rows), 3, told), True)


class IsMixture(Case):
    def test_all_that_there_are_and_no_others(self):
        found = {True: 0, False: 0}
        for dice, table in full_tables(2106, 40, (2, 3, 4), (1, 2, 3), 3):
            valley = dice.randrange(len(table.rows))
            others = others_of(table, valley)
            right = list(mixtures(table, valley))
            for tree in normal_trees(len(others.rows)):
                if fits(tree, others):
                    for rows in all_fillings(tree, others)[:6]:
                        for pair in itertools.product(range(len(rows)), repeat=2):
                            wanted = (tree, rows, *pair) in right
                            self.assertIs(is_mixture(table, valley, (tree, rows, *pair)), wanted)
                            found[wanted] += 1
        self.assertTrue(min(found.values()) > 100, found)

    def test_trees_numbered_otherwise_with_lost_places_and_shared_seats(self):
        dice = random.Random(2107)
        found = {True: 0, False: 0}
        for _ in range(150):
            tree = random_tree(dice, 14)
            if len(tree.seats) == 12:
                continue
            others, _ = random_history(dice, tree, unread=0)
            rows = filling(tree, others)
            one, other = (dice.randrange(len(rows)) for _ in range(2))
            row = tuple(dice.choice(cells) for cells in zip(rows[one], rows[other]))
            if dice.random() < 0.5:
                row = tuple(dice.choice(used(others, matter)) for matter in range(len(row)))
            valley = dice.randrange(len(tree.seats) + 1)
            table = Table(others.kinds, others.rows[:valley] + (row,) + others.rows[valley:])
            wanted = all(cell in cells for cell, cells in zip(row, zip(rows[one], rows[other])))
            self.assertIs(is_mixture(table, valley, (tree, rows, one, other)), wanted)
            self.assertIs(is_mixture(table, valley, (tree, rows, other, one)), wanted)
            numbers = dice.sample(range(len(rows)), len(rows))
            turned = renumbered(tree, numbers)
            shifted = tuple(row for _, row in sorted(zip(numbers, rows)))
            self.assertIs(is_mixture(table, valley, (turned, shifted, numbers[one], numbers[other])), wanted)
            self.assertIs(is_mixture(table, valley, (tree, rows, one, len(rows))), False)
            found[wanted] += 1
        self.assertTrue(min(found.values()) > 20, found)

    def test_tree_or_filling_that_is_none_of_the_others(self):
        tree, rows, one, other = MIXTURE
        for wrong in (
            (Tree((), (0, 0, 0)), ((0, 0),), 0, 0), (Tree(((0, 1),), (0, 0, 1)), ((0, 0), (1, 1)), 0, 1),
            (Tree(((0, 1), (0, 2)), (0, 1, 2, 2)), rows, 1, 2), (Tree(((0, 1), (0, 2)), (1, 0, 2)), rows, 1, 2),
            (tree, ((1, 0), (0, 1), (1, 0)), 1, 2), (tree, rows, 0, 1), (tree, rows, 0, 2), (tree, rows, 1, 1),
            (tree, rows, 1, 3), (tree, rows, -1, 1), (tree, rows, 1), (tree, rows, 1, 2, 2), (rows, tree, 1, 2),
        ):
            self.assertIs(is_mixture(SQUARE, 3, wrong), False)
        self.assertIs(is_mixture(SQUARE, 3, (tree, rows, 2, 1)), True)
        self.assertIs(is_mixture(SQUARE, 2, MIXTURE), False)
        turned = Tree(((0, 2), (1, 2)), (2, 1, 0))
        self.assertIs(is_mixture(SQUARE, 3, (turned, ((1, 0), (0, 1), (0, 0)), 0, 1)), True)

    def test_any_value(self):
        for value in any_values() + spoiled(MIXTURE):
            self.assertIs(is_mixture(SQUARE, 3, value), False, value)
        for value in any_values():
            for index in range(4):
                changed = MIXTURE[:index] + (value,) + MIXTURE[index + 1:]
                wanted = index > 1 and not isinstance(value, bool) and value == MIXTURE[index]
                self.assertIs(is_mixture(SQUARE, 3, changed), wanted, changed)

    def test_no_mixture_for_one_valley(self):
        one = Table((2, 2), ((0, 1),))
        for value in [(Tree((), (0,)), ((0, 1),), 0, 0), MIXTURE, None, ()]:
            self.assertIs(is_mixture(one, 0, value), False)
        self.assertIs(mixture(one, 0), None)

    def test_more_than_six_valleys_are_judged(self):
        rows = tuple((int(valley > 5), int(valley > 2)) for valley in range(12))
        table = Table((2, 2), rows)
        tree = Tree(((0, 1), (1, 2)), (0, 0, 0, 1, 1, 1, 2, 2, 2, 2, 2))
        self.assertIs(is_mixture(table, 11, (tree, ((0, 0), (0, 1), (1, 1)), 2, 2)), True)
        self.assertIs(is_mixture(table, 11, (tree, ((0, 0), (0, 1), (1, 1)), 0, 1)), False)


class Errors(Case):
    def test_bad_table_unread_bad_valley(self):
        for function, more in ((mixture, ()), (is_mixture, (None,))):
            for value in any_values():
                if not isinstance(value, Table):
                    self.refused(BadTable, function, value, None, *more)
            self.refused(Unread, function, table_a(), None, *more)
            self.refused(Unread, function, table_a(), 0, *more)
            for value in wrong_values([0, 1, 2, 3]):
                self.refused(BadValley, function, SQUARE, value, *more)
            self.refused(BadValley, function, Table((1,), ((0,),)), 1, *more)

    def test_the_sequence_of_the_rest(self):
        seven = Table((2, 2), SQUARE.rows + SQUARE.rows[:3])
        self.refused(BadValley, mixture, seven, 7)
        self.refused(BadValley, mixture, seven, True)
        self.refused(TooMany, mixture, seven, 6, told={"most": 6})
        self.refused(TooMany, mixture, Table((1,), ((0,),) * 12), 6, told={"most": 6})
        self.assertIs(is_mixture(seven, 6, MIXTURE), False)
        six = Table((2, 2), SQUARE.rows + SQUARE.rows[:2])
        self.refused(NoFit, mixture, six, 5)
        five = Table((2, 2), SQUARE.rows + ((1, 1),))
        self.refused(NoFit, mixture, five, 4)
        self.refused(NoFit, mixture, Table((2, 2), ((1, 1),) + SQUARE.rows), 0)
        self.assertIs(is_mixture(five, 4, MIXTURE), False)
        # NoFit also where the valley has a custom of its own, which tells without trees that there is none.
        self.refused(NoFit, mixture, Table((2, 3), SQUARE.rows + ((1, 2),)), 4)

    def test_the_table_stays_as_it_was(self):
        told = mixture(SQUARE, 3)
        self.same(SQUARE, Table((2, 2), ((0, 0), (0, 1), (1, 0), (1, 1))))
        self.same(mixture(SQUARE, 3), told)
        self.same(mixture(table=SQUARE, valley=3), told)
        self.same(picked(SQUARE, (0, 1, 2)), others_of(SQUARE, 3))


if __name__ == "__main__":
    unittest.main()

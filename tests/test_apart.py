"""Point 91: paths apart, as many as there must be changes."""

import itertools
import random
import unittest

from oncefound.apart import apart_paths, are_apart
from oncefound.errors import BadMatter, BadTable, BadTree, NotTwo, OtherMany, Unlike
from oncefound.fewest import fewest
from oncefound.tables import Table, used
from oncefound.trees import Tree, path
from oracles import grown_twelve, renumbered, way
from samples import Case, any_values, crowded_table, random_tree, spoiled, tree_t, wrong_values
from test_fewest import CROSSED, unlike_place

PATHS = ((0, 1), (4, 3, 2))


def all_paths(tree, table, matter):
    """All paths from a seat with the lesser used custom to one with the greater one, each once."""
    customs = used(table, matter)
    if len(customs) < 2:
        return []
    ends = [[seat for row, seat in zip(table.rows, tree.seats) if row[matter] == custom] for custom in customs]
    return sorted({tuple(way(tree, one, other)) for one in ends[0] for other in ends[1]})


def ties_on(places):
    return {tuple(sorted(tie)) for tie in zip(places, places[1:])}


def without_common_tie(paths):
    ties = [tie for places in paths for tie in ties_on(places)]
    return len(ties) == len(set(ties))


def two_customs(seed, times, most_places, least_valleys=2):
    """Any trees with tables of one matter of two customs, not two valleys of a place read unlike."""
    dice = random.Random(seed)
    while times > 0:
        tree = random_tree(dice, most_places)
        table = crowded_table(dice, len(tree.seats), 1, 2, dice.choice((0, 0, 0.3, 0.5)))
        if len(tree.seats) >= least_valleys and unlike_place(tree, table, 0) is None:
            times -= 1
            yield dice, tree, table


class AreApart(Case):
    def test_examples(self):
        self.assertIs(are_apart(tree_t(), CROSSED, 0, PATHS), True)
        self.assertIs(are_apart(tree_t(), CROSSED, 0, PATHS[::-1]), True)
        self.assertIs(are_apart(tree_t(), CROSSED, 0, ()), True)
        self.assertIs(are_apart(tree_t(), CROSSED, 0, ((0, 3, 2), (4, 3, 2))), False)

    def test_all_lots_of_paths(self):
        found = {True: 0, False: 0}
        for dice, tree, table in two_customs(2601, 60, 8):
            paths = all_paths(tree, table, 0)
            for size in range(4):
                for some in list(itertools.product(paths, repeat=size))[:200]:
                    wanted = without_common_tie(some)
                    self.assertIs(are_apart(tree, table, 0, some), wanted)
                    found[wanted] += 1
        self.assertTrue(min(found.values()) > 200, found)

    def test_turned_about_doubled_lacking(self):
        for dice, tree, table in two_customs(2602, 40, 14):
            told = apart_paths(tree, table, 0)
            for index, places in enumerate(told):
                rest = told[:index] + told[index + 1:]
                self.assertIs(are_apart(tree, table, 0, rest), True)
                self.assertIs(are_apart(tree, table, 0, told + (places,)), False)
                for wrong in (places[::-1], places[:-1], places[1:], list(places), places + places[-1:],
                              places[:1] + places, places + places[-2::-1], (places,), (), None):
                    is_right = wrong in all_paths(tree, table, 0) and without_common_tie(rest + (wrong,))
                    self.assertIs(are_apart(tree, table, 0, rest + (wrong,)), is_right)

    def test_places_that_are_no_seats_or_no_ends(self):
        # Place 3 is lost; valley 2 has the greater custom.
        for wrong in ((3, 2), (0, 3), (0, 3, 4), (1, 0), (2, 3, 0), (1, 0, 3, 2), (0,), (4, 3), (0, 1, 0, 1), (0, 2)):
            self.assertIs(are_apart(tree_t(), CROSSED, 0, (wrong,)), False)
        for right in ((0, 1), (0, 3, 2), (4, 3, 2), (4, 3, 0, 1)):
            self.assertIs(are_apart(tree_t(), CROSSED, 0, (right,)), True)
        unread = Table((2,), ((None,), (1,), (1,), (0,)))
        self.assertIs(are_apart(tree_t(), unread, 0, ((0, 1),)), False)
        self.assertIs(are_apart(tree_t(), unread, 0, ((4, 3, 0, 1),)), True)

    def test_one_used_custom(self):
        table = Table((3,), ((2,), (None,), (2,), (2,)))
        self.assertIs(are_apart(tree_t(), table, 0, ()), True)
        self.same(apart_paths(tree_t(), table, 0), ())
        for value in any_values() + [((0,),), ((0, 3, 2),), ((2,),), PATHS]:
            self.assertIs(are_apart(tree_t(), table, 0, value), value == () and isinstance(value, tuple))

    def test_any_value(self):
        right = [repr(value) for value in ((), PATHS[:1], PATHS[1:])]
        for value in any_values() + spoiled(PATHS):
            self.assertIs(are_apart(tree_t(), CROSSED, 0, value), repr(value) in right, value)
        self.assertIs(are_apart(tree_t(), CROSSED, 0, ((False, 1),)), False)
        self.assertIs(are_apart(tree_t(), CROSSED, 0, ((0, True),)), False)
        self.assertIs(are_apart(tree_t(), CROSSED, 0, list(PATHS)), False)
        self.assertIs(are_apart(tree_t(), CROSSED, 0, ([0, 1],)), False)
        self.assertIs(are_apart(tree_t(), CROSSED, 0, ((0, 1), (0, 99))), False)
        self.assertIs(are_apart(tree_t(), CROSSED, 0, ((-1, 1),)), False)


class ApartPaths(Case):
    def test_example(self):
        told = apart_paths(tree_t(), CROSSED, 0)
        self.assertEqual(len(told), 2)
        self.assertIs(are_apart(tree_t(), CROSSED, 0, told), True)

    def test_as_many_as_fewest_and_none_has_more(self):
        sizes = set()
        for dice, tree, table in two_customs(2603, 120, 9):
            told = apart_paths(tree, table, 0)
            self.assertIs(type(told), tuple)
            self.assertEqual(len(told), fewest(tree, table, 0))
            self.assertIs(are_apart(tree, table, 0, told), True)
            paths = all_paths(tree, table, 0)
            self.assertTrue(set(told) <= set(paths))
            if len(paths) <= 16:
                more = itertools.combinations(paths, len(told) + 1)
                self.assertFalse(any(without_common_tie(some) for some in more))
            sizes.add(len(told))
        self.assertTrue({0, 1, 2, 3} <= sizes, sizes)

    def test_up_to_twelve_valleys(self):
        sizes = set()
        for dice, tree, table in two_customs(2604, 120, 22, 6):
            told = apart_paths(tree, table, 0)
            self.assertEqual(len(told), fewest(tree, table, 0))
            self.assertIs(are_apart(tree, table, 0, told), True)
            self.assertTrue(all(places == path(tree, places[0], places[-1]) for places in told))
            sizes.add(len(told))
            numbers = dice.sample(range(len(tree.ties) + 1), len(tree.ties) + 1)
            turned = renumbered(tree, numbers)
            moved = tuple(tuple(numbers[place] for place in places) for places in told)
            self.assertIs(are_apart(turned, table, 0, moved), True)
            self.assertEqual(len(apart_paths(turned, table, 0)), len(told))
        self.assertTrue({1, 2, 3, 4} <= sizes, sizes)
        table = Table((2,), tuple((valley % 2,) for valley in range(12)))
        told = apart_paths(grown_twelve(), table, 0)
        self.assertEqual(len(told), fewest(grown_twelve(), table, 0))
        self.assertIs(are_apart(grown_twelve(), table, 0, told), True)

    def test_used_customs_that_are_not_the_lowest(self):
        table = Table((2, 6), ((0, 5), (1, 2), (0, 2), (1, 5)))
        told = apart_paths(tree_t(), table, 1)
        self.assertEqual(len(told), 2)
        self.assertEqual({places[0] for places in told} | {places[-1] for places in told}, {0, 1, 2, 4})
        self.assertEqual({places[0] for places in told}, {1, 2})
        self.assertIs(are_apart(tree_t(), table, 1, ((1, 0), (2, 3, 4))), True)
        self.assertIs(are_apart(tree_t(), table, 1, ((0, 1), (4, 3, 2))), False)

    def test_one_place(self):
        self.same(apart_paths(Tree((), (0,)), Table((6,), ((3,),)), 0), ())
        self.same(apart_paths(Tree((), (0, 0)), Table((6,), ((3,), (None,))), 0), ())


class Errors(Case):
    def test_the_sequence(self):
        star = Tree((), (0,) * 4)
        three = Table((2, 3), ((0, 0), (0, 1), (1, 2), (1, None)))
        for function, more in ((apart_paths, ()), (are_apart, (None,))):
            for value in any_values():
                if not isinstance(value, Tree):
                    self.refused(BadTree, function, value, None, None, *more)
                if not isinstance(value, Table):
                    self.refused(BadTable, function, tree_t(), value, None, *more)
            self.refused(OtherMany, function, Tree((), (0,)), three, None, *more)
            for value in wrong_values([0, 1]):
                self.refused(BadMatter, function, star, three, value, *more)
            self.refused(NotTwo, function, star, three, 1, *more, told={"matter": 1})
            self.refused(Unlike, function, star, three, 0, *more, told={"place": 0})
            two = Tree(((0, 1),), (0, 1, 1, 0))
            self.refused(Unlike, function, two, three, 0, *more, told={"place": 0})
            self.refused(Unlike, function, Tree(((0, 1),), (0, 0, 1, 1)), Table((2,), ((0,), (None,), (1,), (0,))),
                         0, *more, told={"place": 1})
        self.assertEqual(len(apart_paths(tree_t(), three, 0)), 1)


if __name__ == "__main__":
    unittest.main()

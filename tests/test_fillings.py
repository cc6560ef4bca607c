"""Point 22: fillings of a tree for a table."""

import collections
import itertools
import math
import random
import unittest

from oncefound.errors import BadFilling, BadMatter, BadPlace, BadTable, BadTree, NoFit, OtherMany
from oncefound.fillings import changes, choices, filling, fillings_many, is_filling
from oncefound.pieces import fits
from oncefound.tables import Table, is_full, used
from oncefound.trees import Tree, tree_of
from oracles import columns_of, grown_twelve, loose_columns, places_of, way
from samples import Case, any_values, random_history, random_table, random_tree, table_a, tree_t, wrong_values
from test_pieces import table_p, table_q

RIGHT = ((0, 0), (0, 0), (1, 1), (1, 0), (1, 2))
TWICE = ((0, 0), (0, 1), (1, 1), (1, 0), (1, 2))


def small_pairs(seed, times=60, most_places=5, unread=0.5):
    """Small trees with tables of as many valleys, most of which fit."""
    dice = random.Random(seed)
    for _ in range(times):
        tree = random_tree(dice, most_places)
        yield dice, tree, random_history(dice, tree, most_matters=2, most_kind=4, unread=unread)[0]
        table = random_table(dice, matters=2, valleys=len(tree.seats), unread=0.7)
        if all(len(used(table, matter)) <= 4 for matter in (0, 1)):
            yield dice, tree, table


def sparse_pairs(seed, times):
    """Small trees with tables in which few valleys are read, most of them unlike: many fillings."""
    dice = random.Random(seed)
    for _ in range(times):
        tree = random_tree(dice, 7)
        while len(tree.ties) < 4:
            tree = random_tree(dice, 7)
        many = len(tree.seats)
        columns = []
        for _ in range(dice.randint(1, 2)):
            some = dice.sample(range(many), min(many, dice.randint(2, 4)))
            customs = dict(zip(some, dice.sample(dice.choice(((0, 2, 5, 4), (0, 0, 2, 2), (0, 0, 0, 5))), len(some))))
            columns.append([customs.get(valley, None) for valley in range(many)])
        yield dice, tree, Table((6,) * len(columns), tuple(zip(*columns)))


def differing(tree, column):
    return sum(column[one] != column[other] for one, other in tree.ties)


class IsFilling(Case):
    def test_example(self):
        self.assertIs(is_filling(tree_t(), table_p(), RIGHT), True)
        self.assertIs(is_filling(tree_t(), table_p(), TWICE), False)

    def test_none_where_the_tree_does_not_fit(self):
        customs = list(itertools.product((0, 1), (0, 1, 2)))
        for rows in itertools.product(customs[::2], repeat=5):
            self.assertIs(is_filling(tree_t(), table_q(), rows), False)

    def test_places_and_cells(self):
        tree, table = Tree(((0, 1),), (0, 1, 1)), Table((6, 2, 1), ((4, 1, None), (None, 0, 0), (2, None, None)))
        self.assertIs(is_filling(tree, table, ((4, 1, 0), (2, 0, 0))), True)
        wrong = [
            ((4, 1, 0),), ((4, 1, 0), (2, 0, 0), (2, 0, 0)), (), ((), ()), ((4, 1), (2, 0)), ((4, 1, 0, 0), (2, 0, 0, 0)),
            ((4, 1, None), (2, 0, 0)), ((4, 1, 0), (None, 0, 0)), ((4, 1, 1), (2, 0, 0)), ((3, 1, 0), (2, 0, 0)),
            ((4, 0, 0), (2, 0, 0)), ((4, 1, 0), (4, 0, 0)), ((4, 1, 0), (2, 1, 0)), ((4, 1, 0), (2, 0, 1)),
            ((4, True, 0), (2, 0, 0)), ((4, 1, False), (2, 0, 0)), ((4, 1, 0), (2, False, 0)), ((4, 1, "0"), (2, 0, 0)),
            [(4, 1, 0), (2, 0, 0)], ([4, 1, 0], (2, 0, 0)), ((4, 1, 0), [2, 0, 0]), {0: (4, 1, 0), 1: (2, 0, 0)},
            ((4, 1, 0), {2: 0, 0: 0}), "410200", ((2, 0, 0), (4, 1, 0)), ((4, 1, 0), "200"), ((4, 1, 0), None),
        ]
        for thing in wrong:
            self.assertIs(is_filling(tree, table, thing), False, thing)
            self.refused(BadFilling, changes, tree, table, thing)

    def test_any_value(self):
        for value in wrong_values([]):
            self.assertIs(is_filling(tree_t(), table_p(), value), False)
            self.refused(BadFilling, changes, tree_t(), table_p(), value)
        bare = Tree((), (0,))
        for value in wrong_values([((0,),)]):
            self.assertIs(is_filling(bare, Table((2,), ((0,),)), value), False)
        self.assertIs(is_filling(bare, Table((2,), ((0,),)), ((0,),)), True)
        for value in wrong_values([((1,),)]):
            self.assertIs(is_filling(bare, Table((2,), ((1,),)), value), False)

    def test_customs_that_are_not_used(self):
        star = Tree(((0, 3), (1, 3), (2, 3)), (0, 1, 2))
        table = Table((6,), ((0,), (3,), (5,)))
        for custom in range(-1, 7):
            rows = ((0,), (3,), (5,), (custom,))
            self.assertIs(is_filling(star, table, rows), custom in (0, 3, 5))
            if custom not in (0, 3, 5):
                self.refused(BadFilling, changes, star, table, rows)
        self.same(choices(star, table, 3, 0), (0, 3, 5))

    def test_unlike_valleys_at_one_place(self):
        tree, table = Tree((), (0, 0)), Table((2,), ((0,), (1,)))
        for rows in (((0,),), ((1,),)):
            self.assertIs(is_filling(tree, table, rows), False)
            self.refused(BadFilling, changes, tree, table, rows)
        self.same((filling(tree, table), fillings_many(tree, table)), (None, 0))

    def test_just_those_of_the_words(self):
        for dice, tree, table in small_pairs(401):
            columns = [columns_of(tree, table, matter) for matter in range(len(table.kinds))]
            for matter, right in enumerate(columns):
                if any(not others for others in columns):
                    continue
                customs = range(-1, table.kinds[matter] + 1)
                any_columns = [tuple(dice.choice(customs) for _ in right[0]) for _ in range(20)]
                for column in any_columns + loose_columns(tree, table, matter):
                    told = self.with_column(columns, matter, column)
                    self.assertIs(is_filling(tree, table, told), column in right)

    def with_column(self, columns, matter, column):
        """The rows with this column in the matter, and the first right ones in all others."""
        taken = [others[0] for others in columns]
        taken[matter] = column
        return tuple(zip(*taken))

    def test_matters_do_not_hang_on_each_other(self):
        for _, tree, table in small_pairs(402, 40, 4):
            columns = [columns_of(tree, table, matter) for matter in range(len(table.kinds))]
            loose = [loose_columns(tree, table, matter)[:12] for matter in range(len(table.kinds))]
            for chosen in itertools.product(*loose):
                wanted = all(column in right for column, right in zip(chosen, columns))
                self.assertIs(is_filling(tree, table, tuple(zip(*chosen))), wanted)


class Filling(Case):
    def is_right(self, tree, table):
        rows = filling(tree, table)
        self.assertIs(rows is not None, fits(tree, table))
        if rows is not None:
            self.assertIs(is_filling(tree, table, rows), True)
            self.assertEqual({type(row) for row in rows} | {type(rows)}, {tuple})
            self.assertEqual({type(cell) for row in rows for cell in row}, {int})
        return rows

    def test_example(self):
        self.is_right(tree_t(), table_p())
        self.same(filling(tree_t(), table_q()), None)

    def test_edges(self):
        self.same(filling(Tree((), (0,)), Table((6,), ((5,),))), ((5,),))
        self.same(filling(Tree((), (0,) * 12), Table((3,) * 8, ((2,) * 8,) + ((None,) * 8,) * 11)), ((2,) * 8,))
        self.same(filling(Tree(((0, 1),), (0, 1)), Table((6,), ((None,), (4,)))), ((4,), (4,)))
        own = Table((6, 6), tuple((valley // 2, None if valley < 11 else 3) for valley in range(12)))
        rows = self.is_right(grown_twelve(), own)
        self.assertEqual(len(rows), 22)
        self.assertEqual({row[1] for row in rows}, {3})

    def test_exactly_if_the_tree_fits(self):
        for dice, tree, table in small_pairs(403):
            rows = self.is_right(tree, table)
            columns = [columns_of(tree, table, matter) for matter in range(len(table.kinds))]
            self.assertIs(rows is not None, all(columns))

    def test_large_trees(self):
        dice = random.Random(404)
        for _ in range(60):
            tree = random_tree(dice)
            table, rows = random_history(dice, tree, most_matters=8)
            self.is_right(tree, table)
            customs = [{row[matter] for row in rows} for matter in range(len(table.kinds))]
            all_used = all(customs[matter] == set(used(table, matter)) for matter in range(len(table.kinds)))
            self.assertIs(is_filling(tree, table, rows), all_used)


class Many(Case):
    def test_example(self):
        self.same(fillings_many(tree_t(), table_p()), 3)
        self.same(fillings_many(tree_t(), table_q()), 0)

    def test_by_hand(self):
        line = Tree(((0, 1), (1, 2), (2, 3)), (0, 1, 2, 3))
        self.same(fillings_many(line, Table((2,), ((0,), (None,), (None,), (1,)))), 3)
        self.same(fillings_many(line, Table((2,), ((None,), (0,), (None,), (1,)))), 2)
        self.same(fillings_many(line, Table((2,), ((None,), (0,), (None,), (None,)))), 1)
        self.same(fillings_many(line, Table((2, 2), ((0, None), (None, 1), (None, None), (1, 0)))), 6)
        self.same(fillings_many(Tree((), (0,) * 12), Table((1,), ((0,),) * 12)), 1)
        star = Tree(tuple((0, place) for place in range(1, 4)), (1, 2, 3))
        self.same(fillings_many(star, Table((3,) * 8, ((0,) * 8, (1,) * 8, (2,) * 8))), 3 ** 8)

    def test_free_places_on_both_sides_of_a_piece(self):
        line = tuple((place, place + 1) for place in range(7))
        for cells, many in (
            ((0, 0, None, 1, None, None, None, None), 2), ((None, 0, None, 0, None, None, 1, None), 3),
            ((1, None, 0, None, 0, None, None, 2), 6), ((1, 1, None, None, 0, 0, None, 2), 6),
            ((1, None, None, 1, None, 2, None, 2), 2), ((None, 1, 1, None, 0, 0, None, None), 2),
        ):
            table = Table((3,), tuple((cell,) for cell in cells))
            self.same(fillings_many(Tree(line, tuple(range(8))), table), many)
            self.same(fillings_many(Tree(line, tuple(range(7, -1, -1))), table), many)

    def test_as_many_as_the_words_have(self):
        found = collections.Counter()
        for _, tree, table in [*small_pairs(405, 80), *sparse_pairs(409, 80)]:
            columns = [columns_of(tree, table, matter) for matter in range(len(table.kinds))]
            self.same(fillings_many(tree, table), math.prod(map(len, columns)))
            found[fillings_many(tree, table)] += 1
        self.assertTrue(found[0] > 15 and found[1] > 15 and found.total() - found[0] - found[1] > 20, found)

    def test_lines_of_free_places(self):
        # Between two pieces that n ties part, the change can stand at each of the n.
        for count in range(1, 12):
            ties = tuple((place, place + 1) for place in range(count))
            rows = ((0,),) + ((None,),) * (count - 1) + ((5,),)
            self.same(fillings_many(Tree(ties, tuple(range(count + 1))), Table((6,), rows)), count)


class Choices(Case):
    def test_example(self):
        self.same(choices(tree_t(), table_p(), 3, 1), (0, 1, 2))
        self.same(choices(tree_t(), table_p(), 1, 1), (0,))
        self.same([choices(tree_t(), table_p(), place, 0) for place in range(5)], [(0,), (0,), (1,), (1,), (1,)])

    def test_no_fit_behind_all_others(self):
        self.refused(NoFit, choices, tree_t(), table_q(), 3, 1)
        self.refused(NoFit, choices, tree_t(), table_q(), 0, 0)
        self.refused(BadPlace, choices, tree_t(), table_q(), 5, 9)
        self.refused(BadMatter, choices, tree_t(), table_q(), 0, 2)
        # The other matter alone does not fit.
        self.refused(NoFit, choices, Tree((), (0, 0)), Table((1, 2), ((0, 0), (0, 1))), 0, 0)

    def test_what_some_filling_has(self):
        for _, tree, table in [*small_pairs(406, 60), *sparse_pairs(410, 60)]:
            for matter in range(len(table.kinds)):
                columns = columns_of(tree, table, matter)
                for place in range(len(tree.ties) + 1):
                    if fits(tree, table):
                        wanted = sorted({column[place] for column in columns})
                        self.same(choices(tree, table, place, matter), tuple(wanted))
                    else:
                        self.refused(NoFit, choices, tree, table, place, matter)

    def test_pieces_to_which_a_way_is_clear(self):
        dice = random.Random(407)
        for _ in range(40):
            tree = random_tree(dice)
            table = random_history(dice, tree, unread=0.6)[0]
            for matter in range(len(table.kinds)):
                pieces = {custom: places_of(tree, table, matter, custom) for custom in used(table, matter)}
                for place in range(len(tree.ties) + 1):
                    self.same(choices(tree, table, place, matter), self.seen_from(tree, pieces, place))

    def seen_from(self, tree, pieces, place):
        own = tuple(custom for custom, places in pieces.items() if place in places)
        if own:
            return own
        return tuple(sorted({
            custom for custom, places in pieces.items() for goal in places
            if not any(set(way(tree, place, goal)) & others for other, others in pieces.items() if other != custom)
        }))

    def test_one_and_eight_matters(self):
        tree = Tree((), (0,))
        table = Table((6,) * 8, (tuple(range(6)) + (0, 1),))
        self.same([choices(tree, table, 0, matter) for matter in range(8)], [(k,) for k in (0, 1, 2, 3, 4, 5, 0, 1)])
        self.refused(BadMatter, choices, tree, table, 0, 8)
        self.refused(BadPlace, choices, tree, table, 1, 0)


class Changes(Case):
    def test_example(self):
        self.same(changes(tree_t(), table_p(), RIGHT), (1, 2))
        self.same(changes(tree_t(), table_p(), TWICE), (1, 3))

    def test_also_where_the_tree_does_not_fit(self):
        rows = ((0, 0), (1, 0), (1, 1), (0, 0), (0, 2))
        self.same(changes(tree_t(), table_q(), rows), (2, 2))

    def test_edges(self):
        self.same(changes(Tree((), (0,)), Table((6,), ((5,),)), ((5,),)), (0,))
        tree = grown_twelve()
        table = Table((6, 2), tuple((3, valley if valley < 2 else None) for valley in range(12)))
        rows = tuple((3, int(place != tree.seats[0])) for place in range(22))
        self.same(changes(tree, table, rows), (0, 1))
        rows = tuple((3, int(place == tree.seats[1])) for place in range(22))
        self.same(changes(tree, table, rows), (0, 1))
        rows = tuple((3, place % 2) for place in range(22))
        self.same(changes(tree, table, rows), (0, 11))

    def test_least_just_for_fillings(self):
        for _, tree, table in small_pairs(408, 60, 5):
            least = tuple(len(used(table, matter)) - 1 for matter in range(len(table.kinds)))
            loose = [loose_columns(tree, table, matter) for matter in range(len(table.kinds))]
            reached = set()
            for chosen in itertools.zip_longest(*loose):
                taken = [column or others[0] for column, others in zip(chosen, loose) if others]
                if len(taken) < len(loose):
                    continue
                rows = tuple(zip(*taken))
                told = changes(tree, table, rows)
                self.same(told, tuple(differing(tree, column) for column in taken))
                self.assertTrue(all(many >= few for many, few in zip(told, least)))
                self.assertIs(told == least, is_filling(tree, table, rows))
                reached |= {matter for matter in range(len(least)) if told[matter] == least[matter]}
            # A tree fits exactly if some rows reach the least numbers in each matter.
            self.assertIs(len(reached) == len(least), fits(tree, table))


class Errors(Case):
    def test_tree_then_table_then_other_many_then_the_rest(self):
        small = Table((2,), ((0,), (1,)))
        calls = ((is_filling, (9,)), (filling, ()), (fillings_many, ()), (choices, (9, 9)), (changes, (9,)))
        for function, rest in calls:
            for value in any_values():
                if not isinstance(value, Tree):
                    self.refused(BadTree, function, value, value, *rest)
                if not isinstance(value, Table):
                    self.refused(BadTable, function, tree_t(), value, *rest)
            self.refused(OtherMany, function, tree_t(), small, *rest)
            self.refused(OtherMany, function, tree_of(5, ()), table_a(), *rest)
        for value in wrong_values([0, 1, 2, 3, 4]):
            self.refused(BadPlace, choices, tree_t(), table_p(), value, value)
        for value in wrong_values([0, 1]):
            self.refused(BadMatter, choices, tree_t(), table_p(), 4, value)

    def test_unread_is_none_of_them(self):
        self.assertIs(is_full(table_p()), False)
        self.same(fillings_many(tree_t(), table_p()), 3)


if __name__ == "__main__":
    unittest.main()

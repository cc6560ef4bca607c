"""Facts of points 2, 11 and 20 that speak of trees that fit."""

import itertools
import random
import unittest

from oncefound.changing import exchanged, kept, merged, picked, read, with_matter, with_row
from oncefound.errors import BadParting, Crosses
from oncefound.fillings import changes, filling, is_filling
from oncefound.pieces import clash, fits
from oncefound.tables import Table, used
from oncefound.trees import added, common, finer, joined
from oracles import lots_of, normal_trees
from samples import Case, random_history, random_table, random_tree


def some_fits(table):
    """Whether some tree fits, of all that there are."""
    return any(fits(tree, table) for tree in normal_trees(len(table.rows)))


def lots_that_fit(table):
    matters = range(len(table.kinds))
    lots = [lot for size in range(1, len(matters) + 1) for lot in itertools.combinations(matters, size)]
    return [lot for lot in lots if some_fits(kept(table, lot))]


def random_fews(seed, times=60, most_valleys=4):
    """Tables of few valleys, some of which fit no tree."""
    dice = random.Random(seed)
    for _ in range(times):
        valleys = dice.choice((2, 3) + (most_valleys,) * 6)
        kinds = [dice.choice((2, 2, 3)) for _ in range(dice.choice((1, 2, 3, 4)))]
        columns = [dice.sample([valley % kind for valley in range(valleys)], valleys) for kind in kinds]
        rows = [[None if valley > 0 and dice.random() < 0.1 else cell for cell in row]
                for valley, row in enumerate(zip(*columns))]
        yield dice, Table(tuple(kinds), tuple(map(tuple, rows)))


def shuffled(dice, many):
    return tuple(dice.sample(range(many), many))


class FitsThreeWays(Case):
    def test_pieces_fillings_and_changes_agree(self):
        dice = random.Random(801)
        for _ in range(80):
            tree = random_tree(dice, 12)
            table = random_history(dice, tree)[0]
            if dice.random() < 0.5:
                table = random_table(dice, matters=1, valleys=len(tree.seats), unread=0.6)
            rows = filling(tree, table)
            self.assertIs(rows is not None, fits(tree, table))
            self.assertIs(rows is None, clash(tree, table) is not None)
            if rows is not None:
                least = tuple(len(used(table, matter)) - 1 for matter in range(len(table.kinds)))
                self.assertIs(is_filling(tree, table, rows), True)
                self.same(changes(tree, table, rows), least)


class Changing(Case):
    def test_what_fits_goes_along_with_an_exchange(self):
        found = {True: 0, False: 0}
        for dice, table in random_fews(802):
            matters = shuffled(dice, len(table.kinds))
            valleys = shuffled(dice, len(table.rows))
            other = exchanged(table, matters, valleys, tuple(shuffled(dice, kind) for kind in table.kinds))
            self.assertIs(some_fits(other), some_fits(table))
            found[some_fits(table)] += 1
            renumbered = [tuple(sorted(matters[matter] for matter in lot)) for lot in lots_that_fit(other)]
            self.assertEqual(sorted(renumbered), sorted(lots_that_fit(table)))
        self.assertTrue(min(found.values()) > 8, found)

    def test_more_never_makes_a_table_fit_and_less_never_breaks_it(self):
        for dice, table in random_fews(803):
            fitting = some_fits(table)
            column = tuple(dice.choice((0, 1, None)) for _ in table.rows[1:]) + (1,)
            for more in (with_row(table, dice.choice(table.rows)), with_matter(table, 2, column)):
                self.assertFalse(some_fits(more) and not fitting)
            for valley, row in enumerate(table.rows):
                for matter, cell in enumerate(row):
                    if cell is None:
                        more = read(table, valley, matter, dice.randrange(table.kinds[matter]))
                        self.assertFalse(some_fits(more) and not fitting)
                    elif any(other[matter] is not None for at, other in enumerate(table.rows) if at != valley):
                        self.assertTrue(some_fits(read(table, valley, matter, None)) or not fitting)
            # Valley 0 has all matters read.
            valleys = (0,) + tuple(dice.sample(range(1, len(table.rows)), dice.randrange(len(table.rows))))
            self.assertTrue(some_fits(picked(table, valleys)) or not fitting)
            self.assertTrue(some_fits(kept(table, (len(table.kinds) - 1,))) or not fitting)

    def test_rows_that_are_there_leave_it_fit(self):
        for dice, table in random_fews(804, 30, 4):
            trees = [tree for tree in normal_trees(len(table.rows)) if fits(tree, table)]
            for tree in trees[:4]:
                for row in filling(tree, table) + table.rows:
                    self.assertIs(some_fits(with_row(table, row)), True)

    def test_merging_what_neighbours_have(self):
        dice = random.Random(805)
        some = 0
        for _ in range(80):
            tree = random_tree(dice, 14)
            table = random_history(dice, tree)[0]
            rows = filling(tree, table)
            for near, far in tree.ties:
                for matter, (one, other) in enumerate(zip(rows[near], rows[far])):
                    if one != other:
                        self.assertIs(fits(tree, merged(table, matter, one, other)), True)
                        self.assertIs(fits(tree, merged(table, matter, other, one)), True)
                        some += 1
        self.assertTrue(some > 100, some)


class Trees(Case):
    def test_adding_a_parting_keeps_a_tree_that_fits(self):
        for dice, table in random_fews(806, 20):
            many = len(table.rows)
            for tree in normal_trees(many):
                for lot in [lot for lot in lots_of(many) if fits(tree, table)]:
                    try:
                        more = added(tree, lot)
                    except (BadParting, Crosses):
                        continue
                    self.assertIs(fits(more, table), True)

    def test_joining_a_tie_keeps_it_just_where_the_pieces_stay_apart(self):
        for dice, table in random_fews(807, 20, 4):
            for tree in normal_trees(len(table.rows)):
                for tie in tree.ties:
                    less = joined(tree, tie)
                    if fits(less, table):
                        self.assertIs(fits(tree, table), True)

    def test_common_of_two_that_are_finer_than_one_that_fits_fits(self):
        for dice, table in random_fews(808, 8, 4):
            fitting = [tree for tree in normal_trees(len(table.rows)) if fits(tree, table)]
            for least in fitting[:10]:
                above = [tree for tree in fitting if finer(tree, least)]
                for one, other in itertools.combinations(above, 2):
                    self.assertIs(fits(common(one, other), table), True)


if __name__ == "__main__":
    unittest.main()

"""Point 82: the customs that a cell can have, and the cells that have no choice."""

import random
import unittest

from oncefound.cases import case_list
from oncefound.cells import possible, sure_cells
from oncefound.changing import read
from oncefound.chooser import some_fit
from oncefound.errors import AllUnread, BadMatter, BadTable, BadValley, NoFit
from oncefound.fillings import choices
from oncefound.listing import fitting
from oncefound.tables import Table, used
from samples import Case, any_values, crowded_tables, random_history, random_tables, random_tree, table_a, wrong_values

CELLS = Table((2, 3), ((0, 0), (0, 1), (1, None), (1, 1)))
SQUARE = Table((2, 2), ((0, 0), (0, 1), (1, 0), (1, 1)))


def cells_of(table):
    return [(valley, matter) for valley in range(len(table.rows)) for matter in range(len(table.kinds))]


def with_cell(table, valley, matter, custom):
    """The rows with this cell, made without the functions of the package."""
    rows = [list(row) for row in table.rows]
    rows[valley][matter] = custom
    return tuple(map(tuple, rows))


def others_read(table, valley, matter):
    return any(row[matter] is not None for at, row in enumerate(table.rows) if at != valley)


def small_tables(seed, times, valleys=(2, 3, 4, 4, 4), matters=(1, 2, 3), unread=(0.2, 0.4)):
    return crowded_tables(seed, times, valleys, matters, 4, unread)


def read_tables(seed, times, unread=(0.2, 0.4, 0.6), matters=6):
    """Tables of more valleys that some tree fits."""
    dice = random.Random(seed)
    for _ in range(times):
        yield dice, random_history(dice, random_tree(dice, 16), matters, 4, dice.choice(unread))[0]


class Possible(Case):
    def test_example(self):
        self.same(possible(CELLS, 2, 1), (1, 2))
        self.same(sure_cells(CELLS), ((2, 1, 1),))
        self.assertTrue(case_list(read(CELLS, 2, 1, 0)) is not None)

    def test_against_some_fit_with_each_custom(self):
        found = {}
        for dice, table in crowded_tables(2401, 80, (1, 2, 4, 6, 9, 12), (1, 2, 3, 5, 8), 5, (0, 0.2, 0.5)):
            for valley, matter in dice.sample(cells_of(table), min(6, len(cells_of(table)))):
                if not others_read(table, valley, matter):
                    self.refused(AllUnread, possible, table, valley, matter, told={"matter": matter})
                    continue
                bare = Table(table.kinds, with_cell(table, valley, matter, None))
                if not some_fit(bare):
                    self.refused(NoFit, possible, table, valley, matter)
                    continue
                customs = range(table.kinds[matter])
                wanted = [c for c in customs if some_fit(Table(table.kinds, with_cell(table, valley, matter, c)))]
                told = possible(table, valley, matter)
                self.same(told, tuple(wanted))
                self.assertTrue(set(customs) - set(used(bare, matter)) <= set(told))
                self.assertTrue(set(told) & set(used(bare, matter)))
                key = (len(told) == len(customs), table.rows[valley][matter] is None, some_fit(table))
                found[key] = found.get(key, 0) + 1
        self.assertTrue(len(found) >= 5, found)

    def test_what_the_cell_has_makes_no_difference(self):
        for dice, table in small_tables(2402, 40, (1, 2, 3, 4, 7), (1, 2, 3, 4), (0, 0.3)):
            for valley, matter in cells_of(table):
                outcomes = set()
                cells = list(range(table.kinds[matter])) + [None] * others_read(table, valley, matter)
                for cell in cells:
                    try:
                        told = possible(Table(table.kinds, with_cell(table, valley, matter, cell)), valley, matter)
                    except (AllUnread, NoFit) as caught:
                        told = type(caught)
                    outcomes.add(told)
                self.assertEqual(len(outcomes), 1)

    def test_read_where_no_tree_fits_with_what_it_is(self):
        # The table itself fits no tree, but it does with the cell unread.
        table = Table((2, 3), ((0, 0), (0, 1), (1, 0), (1, 1)))
        self.assertIs(some_fit(table), False)
        self.same(possible(table, 2, 1), (1, 2))
        self.same(possible(table, 0, 0), (1,))
        self.refused(NoFit, sure_cells, table)

    def test_customs_that_are_not_used(self):
        table = Table((6, 6), ((3, 3), (3, 5), (1, None), (1, 5)))
        self.same(possible(table, 2, 1), (0, 1, 2, 4, 5))
        self.same(sure_cells(table), ((2, 1, 5),))
        self.same(possible(Table((6,), ((0,), (0,))), 0, 0), (0, 1, 2, 3, 4, 5))
        self.same(possible(Table((1,), ((0,), (None,))), 1, 0), (0,))
        self.same(sure_cells(Table((1,), ((0,), (None,)))), ((1, 0, 0),))
        self.same(sure_cells(Table((6,), ((2,), (None,)))), ((1, 0, 2),))

    def test_a_matter_that_no_other_valley_has_read(self):
        table = Table((2, 2), ((0, None), (1, 1), (0, None)))
        for cell in (0, 1):
            other = Table((2, 2), with_cell(table, 1, 1, cell))
            self.refused(AllUnread, possible, other, 1, 1, told={"matter": 1})
        self.same(possible(table, 0, 1), (0, 1))
        self.refused(AllUnread, possible, Table((2,), ((0,),)), 0, 0, told={"matter": 0})
        # Also where no tree fits the rest.
        square = Table((2, 2, 3), tuple(row + (None,) for row in SQUARE.rows[:3]) + ((1, 1, 2),))
        self.refused(AllUnread, possible, square, 3, 2, told={"matter": 2})
        five = Table((2, 2, 3), square.rows + ((0, 0, None),))
        self.refused(AllUnread, possible, five, 3, 2, told={"matter": 2})
        self.refused(NoFit, possible, five, 4, 2)

    def test_used_customs_by_fillings_of_all_trees(self):
        found = {True: 0, False: 0}
        for _, table in small_tables(2403, 50):
            trees = fitting(table)
            if not trees:
                continue
            for valley, matter in cells_of(table):
                if table.rows[valley][matter] is None:
                    wanted = set()
                    for tree in trees:
                        wanted |= set(choices(tree, table, tree.seats[valley], matter))
                    told = set(possible(table, valley, matter)) & set(used(table, matter))
                    self.assertEqual(told, wanted)
                    found[len(told) == len(used(table, matter))] += 1
        self.assertTrue(min(found.values()) > 5, found)

    def test_not_possible_exactly_if_there_is_a_case_list(self):
        found = {True: 0, False: 0}
        for dice, table in crowded_tables(2404, 120, (4, 5, 6, 8), (2, 3, 4), 4, (0, 0.2)):
            for valley, matter in dice.sample(cells_of(table), min(4, len(cells_of(table)))):
                if others_read(table, valley, matter) and some_fit(read(table, valley, matter, None)):
                    told = possible(table, valley, matter)
                    for custom in range(table.kinds[matter]):
                        is_shown = case_list(read(table, valley, matter, custom)) is not None
                        self.assertIs(custom not in told, is_shown)
                        found[is_shown] += 1
        self.assertTrue(min(found.values()) > 20, found)


class SureCells(Case):
    def sure_by_trees(self, table):
        """The unread cells that have one custom in all fillings of all trees that fit, with this custom."""
        trees = fitting(table)
        found = []
        for valley, matter in cells_of(table):
            if table.rows[valley][matter] is None:
                customs = set()
                for tree in trees:
                    customs |= set(choices(tree, table, tree.seats[valley], matter))
                if len(customs) == 1:
                    found.append((valley, matter, min(customs)))
        return tuple(found)

    def test_against_all_fillings_of_all_trees(self):
        found = {True: 0, False: 0}
        for _, table in small_tables(2405, 150, (2, 3, 4, 4, 4, 4)):
            if some_fit(table):
                told = sure_cells(table)
                self.same(told, self.sure_by_trees(table))
                found[told == ()] += 1
            else:
                self.refused(NoFit, sure_cells, table)
        for _, table in small_tables(2406, 4, (5,), (2, 3)):
            if some_fit(table):
                self.same(sure_cells(table), self.sure_by_trees(table))
        self.assertTrue(min(found.values()) > 20, found)

    def test_by_possible(self):
        some = 0
        for _, table in read_tables(2407, 40):
            wanted = []
            for valley, matter in cells_of(table):
                if table.rows[valley][matter] is None:
                    customs = set(possible(table, valley, matter)) & set(used(table, matter))
                    wanted += [(valley, matter, min(customs))] * (len(customs) == 1)
            self.same(sure_cells(table), tuple(wanted))
            some += len(set(used(table, matter) for _, matter, _ in wanted) - {(0,)})
        self.assertTrue(some > 5, some)

    def test_read_as_it_surely_is(self):
        some = 0
        for dice, table in small_tables(2408, 60):
            told = sure_cells(table) if some_fit(table) else ()
            for cell in told:
                other = read(table, *cell)
                self.same(fitting(other), fitting(table))
                self.same(sure_cells(other), tuple(rest for rest in told if rest != cell))
                some += 1
        self.assertTrue(some > 20, some)
        for dice, table in read_tables(2409, 25):
            told = sure_cells(table)
            for cell in told[:3]:
                self.same(sure_cells(read(table, *cell)), tuple(rest for rest in told if rest != cell))

    def test_nothing_unread(self):
        self.same(sure_cells(Table((2,), ((0,),))), ())
        self.same(sure_cells(Table((2, 2), SQUARE.rows[:3])), ())
        self.refused(NoFit, sure_cells, SQUARE)

    def test_twelve_valleys_and_eight_matters(self):
        # The odd matters have their custom 1 on both sides of what parts the customs of the even ones.
        rows = [[valley // 6, int(valley > 0)] * 4 for valley in range(12)]
        rows[8] = [1, None] * 4
        table = Table((2,) * 8, tuple(map(tuple, rows)))
        self.same(sure_cells(table), tuple((8, matter, 1) for matter in (1, 3, 5, 7)))


class Errors(Case):
    def test_bad_table_bad_valley_bad_matter(self):
        for value in any_values():
            if not isinstance(value, Table):
                self.refused(BadTable, possible, value, None, None)
                self.refused(BadTable, sure_cells, value)
        for value in wrong_values([0, 1, 2, 3]):
            self.refused(BadValley, possible, CELLS, value, None)
            self.refused(BadValley, possible, SQUARE, value, 0)
        for value in wrong_values([0, 1]):
            self.refused(BadMatter, possible, CELLS, 2, value)
            self.refused(BadMatter, possible, SQUARE, 2, value)
        self.refused(BadValley, possible, CELLS, True, 0)
        self.refused(BadMatter, possible, CELLS, 1, False)

    def test_tables_of_any_kind(self):
        for dice, table in random_tables(2410, 60):
            for valley, matter in dice.sample(cells_of(table), min(3, len(cells_of(table)))):
                if others_read(table, valley, matter) and some_fit(read(table, valley, matter, None)):
                    told = possible(table, valley, matter)
                    self.assertTrue(told and all(type(custom) is int for custom in told))
            self.same(possible(table_a(), 1, 1), (0, 1, 2))


if __name__ == "__main__":
    unittest.main()

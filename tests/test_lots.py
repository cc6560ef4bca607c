"""Point 61: failing lots, fitting lots, ways out, and failing lots apart."""

import itertools
import random
import unittest

from oncefound.changing import kept
from oncefound.chooser import some_fit
from oncefound.errors import BadTable
from oncefound.lots import apart_lots, failing_lots, fitting_lots, ways_out
from oncefound.pieces import fits
from oncefound.tables import Table, is_full, used
from oncefound.texts import from_text
from oncefound.threes import pairs_example
from oracles import cross, normal_trees, split_of
from samples import Case, any_values, crowded_tables, random_history, random_tree
from test_cases import SEVEN
from test_facts import some_fits

# Rows of tables the lots of which took long to tell.
LONG = (
    ((0, 0, 1, 0, 1, 1, 1, 0), (0, 0, 1, 0, 1, 1, 1, 0), (0, 0, 1, 0, 1, 1, 1, 0), (0, 1, 0, 0, 0, 1, 0, 1),
     (0, 1, 0, 1, 0, 1, 0, 1), (1, 0, 1, 0, 1, 1, 1, 0), (0, 0, 1, 0, 1, 1, 1, 0), (1, 0, 1, 0, 1, 0, 1, 0),
     (1, 0, 1, 0, 1, 0, 1, 0), (0, 1, 0, 1, 0, 1, 0, 0), (0, 0, 1, 0, 1, 1, 1, 0), (0, 1, 0, 0, 0, 1, 0, 1)),
    ((0, 0, 0, 0, 1, 1, 1, 1), (0, 0, 0, 0, 1, 1, 1, 1), (1, 0, 1, 1, 1, 0, 0, 0), (1, 1, 1, 1, 1, 0, 0, 0),
     (1, 0, 1, 1, 1, 0, 0, 0), (0, 0, 0, 0, 0, 1, 1, 1), (1, 0, 1, 0, 1, 1, 0, 0), (1, 0, 1, 0, 1, 0, 0, 0),
     (1, 1, 1, 1, 1, 0, 0, 0), (0, 0, 0, 0, 0, 1, 1, 1), (1, 0, 1, 0, 1, 0, 0, 0)),
    ((None, 1, 0, 0, None, 1), (1, 0, 1, 0, 1, 0), (0, None, 1, 0, 0, 1), (0, None, 1, 1, None, 0),
     (None, 1, 1, 1, None, 0), (1, 0, 1, 0, 0, 0), (None, None, 0, 0, 1, 0)),
)
ALL = (failing_lots, fitting_lots, ways_out, apart_lots)


def table_l():
    """The table of point 61."""
    return Table((2, 2, 2), ((0, 0, 0), (0, 1, 0), (1, 0, 0), (1, 1, 1)))


def every_lot(table):
    """All lots, those of fewer matters first, then ascending."""
    matters = range(len(table.kinds))
    return [lot for size in range(len(matters) + 1) for lot in itertools.combinations(matters, size)]


def told_by_words(table, judge):
    """Failing lots, fitting lots and ways out by trying all lots, where judge tells whether a tree fits."""
    lots = every_lot(table)
    fit = {lot: lot == () or judge(kept(table, lot)) for lot in lots}
    return (*told_by_lots(table, fit), fit)


def told_by_lots(table, fit):
    """Failing lots, fitting lots and ways out, where fit tells of each lot whether it fits."""
    lots = every_lot(table)

    def lesser(lot):
        return [other for other in lots if set(other) < set(lot)]

    def rest(lot):
        return tuple(matter for matter in range(len(table.kinds)) if matter not in lot)
    failing = [lot for lot in lots if not fit[lot] and all(fit[other] for other in lesser(lot))]
    fitting = [lot for lot in lots if fit[lot] and not any(fit[other] for other in lots if set(lot) < set(other))]
    out = [lot for lot in lots if fit[rest(lot)] and not any(fit[rest(other)] for other in lesser(lot))]
    return tuple(failing), tuple(fitting), tuple(out)


def hitting(lots, several):
    """Those of lots that have a matter of each of several while no lesser part of them has."""
    hit = [lot for lot in lots if all(set(lot) & set(other) for other in several)]
    return tuple(lot for lot in hit if not any(set(other) < set(lot) for other in hit))


def most_apart(lots):
    """How many of these can be taken without a matter that two of them have."""
    best = 0
    for size in range(1, 5):
        for some in itertools.combinations(lots, size):
            if sum(map(len, some)) == len(set().union(*some)):
                best = size
    return best


def judge_by_trees(table):
    """What tells of a kept table whether a tree fits, of all trees that there are: the matters that each one fits."""
    matters = range(len(table.kinds))
    singles = [kept(table, (matter,)) for matter in matters]
    found = {tuple(fits(tree, single) for single in singles) for tree in normal_trees(len(table.rows))}
    return {lot: any(all(own[matter] for matter in lot) for own in found) for lot in every_lot(table)}


class Lots(Case):
    def check(self, table, judge):
        failing, fitting, out, fit = told_by_words(table, judge)
        self.same(failing_lots(table), failing)
        self.same(fitting_lots(table), fitting)
        self.same(ways_out(table), out)
        apart = apart_lots(table)
        self.assertIs(type(apart), tuple)
        self.assertTrue(set(apart) <= set(failing))
        self.assertEqual(sum(map(len, apart)), len(set().union(*apart)))
        self.assertEqual(len(apart), most_apart(failing))
        # The one is the mirror of the other.
        lots = every_lot(table)
        self.assertEqual(hitting(lots, failing), out)
        self.assertEqual(hitting(lots, out), failing)
        self.assertTrue(all(len(lot) >= len(apart) for lot in out))
        self.assertTrue(all(len(lot) >= 2 for lot in failing))
        for lot in lots:
            self.assertIs(fit[lot], not any(set(other) <= set(lot) for other in failing))
            self.assertIs(fit[lot], any(set(lot) <= set(other) for other in fitting))
        most = max(len(used(table, matter)) for matter in range(len(table.kinds)))
        if is_full(table) and most <= 3:
            self.assertTrue(all(len(lot) <= max(most, 2) for lot in failing))
        return failing, apart

    def test_example(self):
        table = table_l()
        self.same(failing_lots(table), ((0, 1),))
        self.same(fitting_lots(table), ((0, 2), (1, 2)))
        self.same(ways_out(table), ((0,), (1,)))
        self.same(apart_lots(table), ((0, 1),))
        self.check(table, some_fits)

    def test_a_table_that_some_tree_fits(self):
        for table in (Table((6,), ((5,),)), Table((6,) * 8, ((5,) * 8,)), kept(pairs_example(), (0, 2)),
                      Table((6,) * 8, tuple((valley % 6,) * 8 for valley in range(12)))):
            self.same(failing_lots(table), ())
            self.same(fitting_lots(table), (tuple(range(len(table.kinds))),))
            self.same(ways_out(table), ((),))
            self.same(apart_lots(table), ())

    def test_up_to_four_valleys(self):
        found = {}
        for _, table in crowded_tables(1801, 40, (1, 2, 3, 4, 4, 4, 4), (1, 2, 3, 4, 5), 3, (0, 0.1, 0.3)):
            failing, _ = self.check(table, some_fits)
            found[min(2, len(failing))] = True
        self.assertEqual(len(found), 3)

    def test_each_lot_of_small_tables_by_all_trees(self):
        sizes = {}
        for valleys, times, most_kind, unread in (
            ((2, 3, 4, 4, 4), 150, 3, (0, 0.2, 0.4)), ((5,), 10, 3, (0, 0.4)), ((5,), 25, 2, (0.2, 0.25))
        ):
            for _, table in crowded_tables(1804, times, valleys, (1, 3, 5, 6), most_kind, unread):
                failing, fitting, out = told_by_lots(table, judge_by_trees(table))
                self.same(failing_lots(table), failing)
                self.same(fitting_lots(table), fitting)
                self.same(ways_out(table), out)
                for lot in failing:
                    sizes[len(lot)] = sizes.get(len(lot), 0) + 1
        self.assertTrue(sizes[2] > 50 and sizes[3] > 2, sizes)

    def test_two_customs_and_nothing_unread(self):
        counts = set()
        for _, table in crowded_tables(1805, 60, (7, 9, 12), (2, 6, 7, 8), 2):
            splits = [split_of(table, matter) for matter in range(len(table.kinds))]
            pairs = [lot for lot in every_lot(table) if len(lot) == 2 and cross(*[splits[m] for m in lot])]
            fit = {lot: not any(set(pair) <= set(lot) for pair in pairs) for lot in every_lot(table)}
            failing, fitting, out = told_by_lots(table, fit)
            self.same(failing_lots(table), tuple(pairs))
            self.same((failing_lots(table), fitting_lots(table), ways_out(table)), (failing, fitting, out))
            counts.add(len(out))
        self.assertTrue(len(counts) > 3, counts)

    def test_histories_some_cells_of_which_are_read_otherwise(self):
        sizes = set()
        dice = random.Random(1806)
        for _ in range(80):
            tree = random_tree(dice, 12)
            table, _ = random_history(dice, tree, 8, 4, dice.choice((0, 0.3, 0.5)))
            rows = [list(row) for row in table.rows]
            for _ in range(dice.randrange(5)):
                matter = dice.randrange(len(table.kinds))
                rows[dice.randrange(len(rows))][matter] = dice.choice(used(table, matter))
            other = Table(table.kinds, tuple(map(tuple, rows)))
            failing, _ = self.check(other, some_fit)
            sizes |= {len(lot) for lot in failing} | {0}
        self.assertTrue({0, 2} <= sizes, sizes)

    def test_tables_that_took_long(self):
        for rows in LONG:
            kinds = tuple(max(cell for cell in column if cell is not None) + 1 for column in zip(*rows))
            self.check(Table(kinds, rows), some_fit)

    def test_more_valleys(self):
        sizes = set()
        most = 0
        for _, table in crowded_tables(1802, 60, (5, 8, 10, 12), (3, 4, 5, 6), 5, (0.2, 0.45, 0.6)):
            failing, apart = self.check(table, some_fit)
            sizes |= {len(lot) for lot in failing}
            most = max(most, len(apart))
        self.assertTrue({2, 3} <= sizes and most >= 2, (sizes, most))

    def test_eight_matters(self):
        for _, table in crowded_tables(1803, 4, (6, 12), (8,), 4, (0.2, 0.5)):
            self.check(table, some_fit)
        square = ((0, 0), (0, 1), (1, 0), (1, 1))
        table = Table((2,) * 8, tuple(row * 4 for row in square))
        failing, apart = self.check(table, some_fits)
        self.assertEqual(len(failing), 16)
        self.assertEqual(len(apart), 4)
        self.same(ways_out(table), ((0, 2, 4, 6), (1, 3, 5, 7)))

    def test_lots_of_three_and_of_many(self):
        self.same(failing_lots(pairs_example()), ((0, 1, 2),))
        self.same(ways_out(pairs_example()), ((0,), (1,), (2,)))
        self.same(fitting_lots(pairs_example()), ((0, 1), (0, 2), (1, 2)))
        self.same(apart_lots(pairs_example()), ((0, 1, 2),))
        table = from_text("\n".join(("kinds 6 6 6 6 6 6 6 6",) + SEVEN))
        self.assertEqual([len(lot) for lot in failing_lots(table)], [7])
        self.assertEqual([len(lot) for lot in ways_out(table)], [1] * 7)

    def test_lots_by_size_and_then_ascending(self):
        rows = tuple(row + pair for row, pair in zip(
            pairs_example().rows, ((0, 0), (0, 1), (1, 0), (1, 1), (None, None), (None, None))))
        table = Table((3, 3, 3, 2, 2), rows)
        failing, _ = self.check(table, some_fit)
        self.assertEqual(list(failing), sorted(failing, key=lambda lot: (len(lot), lot)))
        self.assertTrue((0, 1, 2) in failing and (3, 4) in failing)

    def test_bad_table(self):
        for value in any_values():
            if not isinstance(value, Table):
                for function in ALL:
                    self.refused(BadTable, function, value)


if __name__ == "__main__":
    unittest.main()

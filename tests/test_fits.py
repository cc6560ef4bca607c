"""Facts of points 2, 11 and 22 about tables that some tree fits, where there are more valleys than all trees allow."""

import random
import unittest

from oncefound.changing import exchanged, kept, merged, picked, read, with_matter, with_row
from oncefound.chooser import fitting_tree, some_fit
from oncefound.closings import closing
from oncefound.fillings import changes, filling, is_filling
from oncefound.splits import crossed
from oncefound.tables import Table, is_full, used
from oracles import lots_of
from samples import Case, crowded_tables, random_history, random_tree
from test_facts import shuffled

SHARES = (0, 0.2, 0.4, 0.6)


def great_tables(seed, times):
    """Tables of more valleys, some of which fit no tree."""
    return crowded_tables(seed, times, (5, 6, 8, 10, 12), (2, 3, 4, 6, 8), 5, SHARES)


def lots_of_matters(table):
    """All lots of one matter or more."""
    return [tuple(matter - 1 for matter in lot) for lot in lots_of(len(table.kinds) + 1)]


class Changing(Case):
    def test_exchanged(self):
        found = {True: 0, False: 0}
        for dice, table in great_tables(1401, 60):
            matters = shuffled(dice, len(table.kinds))
            customs = tuple(shuffled(dice, kind) for kind in table.kinds)
            other = exchanged(table, matters, shuffled(dice, len(table.rows)), customs)
            self.assertIs(some_fit(other), some_fit(table))
            found[some_fit(table)] += 1
            if len(matters) <= 4:
                lots = [lot for lot in lots_of_matters(table) if some_fit(kept(other, lot))]
                renumbered = {tuple(sorted(matters[matter] for matter in lot)) for lot in lots}
                self.assertEqual(renumbered, {lot for lot in lots_of_matters(table) if some_fit(kept(table, lot))})
        self.assertTrue(min(found.values()) > 10, found)

    def test_more_never_makes_a_table_fit(self):
        broken = 0
        for dice, table in great_tables(1402, 150):
            more = []
            if len(table.rows) < 12:
                more.append(with_row(table, tuple(dice.choice(used(table, m)) for m in range(len(table.kinds)))))
            if len(table.kinds) < 8:
                column = [dice.choice((0, 1, 2, None)) for _ in table.rows]
                column[0] = 0
                more.append(with_matter(table, 3, tuple(column)))
            for valley, row in enumerate(table.rows):
                for matter, cell in enumerate(row):
                    if cell is None and dice.random() < 0.2:
                        more.append(read(table, valley, matter, dice.randrange(table.kinds[matter])))
            for other in more:
                self.assertFalse(some_fit(other) and not some_fit(table))
                broken += some_fit(table) and not some_fit(other)
        self.assertTrue(broken > 10, broken)

    def test_less_never_breaks_a_table(self):
        mended = 0
        for dice, table in great_tables(1403, 150):
            fitting = some_fit(table)
            less = [kept(table, tuple(sorted(dice.sample(range(len(table.kinds)), dice.randint(1, len(table.kinds))))))]
            valleys = dice.sample(range(len(table.rows)), dice.randint(2, len(table.rows)))
            columns = zip(*[table.rows[valley] for valley in valleys])
            if all(set(column) != {None} for column in columns):
                less.append(picked(table, tuple(valleys)))
            for matter in range(len(table.kinds)):
                valley = dice.randrange(len(table.rows))
                if sum(row[matter] is not None for row in table.rows) > 1:
                    less.append(read(table, valley, matter, None))
            for other in less:
                self.assertTrue(some_fit(other) or not fitting)
                mended += some_fit(other) and not fitting
        self.assertTrue(mended > 20, mended)

    def test_rows_that_are_there_already(self):
        some = 0
        for dice, table in great_tables(1404, 150):
            if len(table.rows) < 12 and some_fit(table):
                tree = fitting_tree(table)
                for row in table.rows + filling(tree, table):
                    self.assertIs(some_fit(with_row(table, row)), True)
                    some += 1
        self.assertTrue(some > 200, some)

    def test_merged(self):
        dice = random.Random(1405)
        found = set()
        for _ in range(40):
            tree = random_tree(dice, 14)
            table = random_history(dice, tree)[0]
            rows = filling(tree, table)
            for near, far in tree.ties:
                for matter, (one, other) in enumerate(zip(rows[near], rows[far])):
                    if one != other:
                        self.assertIs(some_fit(merged(table, matter, one, other)), True)
        for dice, table in great_tables(1406, 150):
            matter = dice.randrange(len(table.kinds))
            if len(used(table, matter)) > 1:
                one, other = dice.sample(used(table, matter), 2)
                found.add((some_fit(table), some_fit(merged(table, matter, one, other))))
        # Otherwise it may go any way.
        self.assertEqual(len(found), 4)


class Ways(Case):
    def test_trees_fillings_changes_and_closings(self):
        found = {}
        for _, table in great_tables(1407, 150):
            tree = fitting_tree(table)
            self.assertIs(closing(table) is None, tree is None)
            if tree is not None:
                rows = filling(tree, table)
                self.assertIs(is_filling(tree, table, rows), True)
                least = tuple(len(used(table, matter)) - 1 for matter in range(len(table.kinds)))
                self.same(changes(tree, table, rows), least)
            key = (tree is None, is_full(table))
            found[key] = found.get(key, 0) + 1
        self.assertEqual(len(found), 4, found)

    def test_two_customs(self):
        found = {True: 0, False: 0}
        for _, table in crowded_tables(1408, 80, (3, 4, 5, 6, 12), (1, 2, 3), 2):
            self.assertIs(some_fit(table), crossed(table) is None)
            found[some_fit(table)] += 1
        self.assertTrue(min(found.values()) > 15, found)

    def test_two_matters_fit_exactly_if_their_web_has_no_ring(self):
        for _, table in crowded_tables(1409, 60, (4, 6, 9, 12), (2,), 6, (0, 0.3, 0.5)):
            self.assertIs(some_fit(table), closing(table) == ())

    def test_the_table_stays_as_it_was(self):
        rows = ((0, 0), (0, 1), (1, 0), (1, None))
        table = Table((2, 2), rows)
        self.assertIs(some_fit(table), True)
        self.same(table, Table((2, 2), rows))


if __name__ == "__main__":
    unittest.main()

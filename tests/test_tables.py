"""Point 10: tables."""

import itertools
import unittest

from oncefound.errors import BadCustom, BadKinds, BadMatter, BadRows, BadTable
from oncefound.tables import Table, having, is_full, is_row, sorts, used
from samples import Case, any_values, random_tables, table_a, tree_t, wrong_values


def cell_fits(kind, cell):
    return cell is None or (type(cell) is int and 0 <= cell < kind)


def row_fits(kinds, row):
    return type(row) is tuple and len(row) == len(kinds) and all(map(cell_fits, kinds, row))


class Making(Case):
    def test_attributes(self):
        table = table_a()
        self.same(table.kinds, (2, 3))
        self.same(table.rows, ((0, 0), (1, None), (0, 0), (1, 2)))
        named = Table(rows=((0,),), kinds=(1,))
        self.same((named.kinds, named.rows), ((1,), ((0,),)))

    def test_one_to_eight_matters(self):
        for many in range(1, 9):
            table = Table((6,) * many, ((5,) * many,))
            self.assertEqual(len(table.kinds), many)
        self.refused(BadKinds, Table, (6,) * 9, ((5,) * 9,))
        self.refused(BadKinds, Table, (), ((),))
        self.refused(BadKinds, Table, (), ())

    def test_kinds_from_1_to_6(self):
        for kind in range(1, 7):
            table = Table((kind,), tuple((custom,) for custom in range(kind)))
            self.assertEqual(len(table.rows), kind)
            self.refused(BadRows, Table, (kind,), ((kind,),))
            self.refused(BadRows, Table, (kind,), ((-1,),))
        for kind in (0, 7, -1, 999999999, True, False, None, "2", (2,), [2], {2: 2}, table_a()):
            self.refused(BadKinds, Table, (kind,), ((0,),))
            self.refused(BadKinds, Table, (2, kind), ((0, 0),))
        self.refused(BadKinds, Table, [2, 3], ((0, 0),))
        self.refused(BadKinds, Table, {2: 3}, ((0,),))

    def test_one_to_twelve_valleys(self):
        for many in range(1, 13):
            self.assertEqual(len(Table((2,), ((1,),) * many).rows), many)
        self.refused(BadRows, Table, (2,), ((1,),) * 13)
        self.refused(BadRows, Table, (2,), ())

    def test_each_matter_is_read_somewhere(self):
        self.refused(BadRows, Table, (2, 3), ((0, None), (1, None)))
        self.refused(BadRows, Table, (2,), ((None,),))
        self.refused(BadRows, Table, (2, 3, 2), ((None, 0, 0), (None, 1, 1)))
        for valley in range(12):
            rows = tuple((0, 2 if at == valley else None) for at in range(12))
            self.assertEqual(having(Table((2, 3), rows), 1, 2), (valley,))
        self.assertEqual(Table((2, 3), ((0, None), (None, 1))).rows, ((0, None), (None, 1)))

    def test_wrong_rows(self):
        for cell in (2, -1, True, False, "a", "0", (), (0,), [0], {}, {0: 0}, table_a(), tree_t(), 999999999):
            self.refused(BadRows, Table, (2, 3), ((0, 0), (cell, 0)))
            self.refused(BadRows, Table, (2, 3), ((cell, 0), (0, 0)))
        for row in ((), (0,), (0, 0, 0), [0, 0], {0: 0, 1: 0}, None, True, 0, "aa", ((0, 0),), table_a()):
            self.refused(BadRows, Table, (2, 3), (row,))
            self.refused(BadRows, Table, (2, 3), ((0, 0), row))
        self.refused(BadRows, Table, (2, 3), [(0, 0)])
        self.refused(BadRows, Table, (2, 3), ([0, 0],))

    def test_kinds_are_judged_before_rows(self):
        self.refused(BadKinds, Table, (0,), ())
        self.refused(BadKinds, Table, "kinds", None)
        self.refused(BadKinds, Table, rows=[], kinds=[])

    def test_just_what_is_described_is_taken(self):
        cells = (None, 0, 1, 2, True)
        rows = [(), (0,)] + list(itertools.product(cells, repeat=2))
        for kinds in ((1, 2), (2, 3), (1,), (3, 1)):
            for lot in itertools.chain([()], itertools.product(rows, repeat=1), itertools.product(rows, repeat=2)):
                right = bool(lot) and all(row_fits(kinds, row) for row in lot)
                right = right and all(any(row[m] is not None for row in lot) for m in range(len(kinds)))
                if right:
                    self.same(Table(kinds, lot).rows, lot)
                else:
                    self.refused(BadRows, Table, kinds, lot)


class Equality(Case):
    def test_by_both_attributes(self):
        self.assertTrue(table_a() == table_a())
        self.assertFalse(table_a() != table_a())
        for other in (
            Table((2, 3), ((0, 0), (1, None), (0, 0), (1, 1))), Table((2, 4), table_a().rows),
            Table((2, 3), table_a().rows[:3]), Table((2, 3), table_a().rows + ((None, None),)),
        ):
            self.assertFalse(table_a() == other)
            self.assertTrue(table_a() != other)

    def test_to_no_value_of_another_kind(self):
        table = table_a()
        for value in any_values() + [(table.kinds, table.rows), [table.kinds, table.rows], table.rows, table.kinds]:
            if not isinstance(value, Table):
                self.assertIs(table == value, False)
                self.assertIs(value == table, False)
                self.assertIs(table != value, True)
        self.assertFalse(Table((1,), ((0,),)) == tree_t())


class Questions(Case):
    def test_example(self):
        table = table_a()
        self.same(used(table, 1), (0, 2))
        self.same(having(table, 0, 1), (1, 3))
        self.refused(BadCustom, having, table, 1, 1)
        self.same(sorts(table), ((0, 2), (1,), (3,)))
        for row in ((1, 1), (None, None), (0, 2), (1, None)):
            self.assertIs(is_row(table, row), True)
        for row in ((2, 0), (True, 0), (0, False), (0, 3), (-1, 0), (0,), (0, 0, 0), [0, 0], ()):
            self.assertIs(is_row(table, row), False)
        self.refused(BadRows, Table, (2, 3), ((0, None), (1, None)))

    def test_is_row_of_any_value(self):
        right = [(0, 1), (0, 0), (1, 0), (1, 1), (1, 2), (None, None)]
        for value in wrong_values(right):
            self.assertIs(is_row(table_a(), value), False)
        for value in right:
            self.assertIs(is_row(table_a(), value), True)

    def test_is_full(self):
        self.assertIs(is_full(table_a()), False)
        self.assertIs(is_full(Table((2, 3), ((0, 0), (1, 1)))), True)
        self.assertIs(is_full(Table((1,), ((0,),))), True)
        self.assertIs(is_full(Table((1,), ((0,), (None,)))), False)
        self.assertIs(is_full(Table((2, 2), ((None, 0), (0, 0)))), False)

    def test_unread_cells_are_no_customs(self):
        table = Table((3, 2), ((None, 1), (2, None), (None, None)))
        self.same(used(table, 0), (2,))
        self.same(used(table, 1), (1,))
        self.same(having(table, 0, 2), (1,))
        self.refused(BadCustom, having, table, 0, None)
        self.same(sorts(table), ((0,), (1,), (2,)))

    def test_sorts_take_unread_cells_as_equal_to_unread_ones_alone(self):
        table = Table((2, 2), ((None, 0), (0, 0), (None, 0), (0, None), (None, None), (None, None)))
        self.same(sorts(table), ((0, 2), (1,), (3,), (4, 5)))

    def test_sorts_at_the_edges(self):
        self.same(sorts(Table((1,), ((0,),))), ((0,),))
        self.same(sorts(Table((1,), ((0,),) * 12)), (tuple(range(12)),))
        rows = tuple((number % 6, number // 6) for number in range(12))
        self.same(sorts(Table((6, 2), rows)), tuple((valley,) for valley in range(12)))

    def test_customs_that_are_none(self):
        table = table_a()
        for custom in wrong_values([0, 1]):
            self.refused(BadCustom, having, table, 0, custom)
        for custom in wrong_values([0, 2]):
            self.refused(BadCustom, having, table, 1, custom)

    def test_order_of_errors(self):
        self.refused(BadTable, used, "t", "m")
        self.refused(BadTable, having, "t", 9, True)
        self.refused(BadMatter, having, table_a(), 2, True)
        self.refused(BadMatter, having, table_a(), True, 0)
        self.refused(BadTable, is_row, None, None)

    def test_against_what_the_words_say(self):
        for dice, table in random_tables(10):
            for matter, kind in enumerate(table.kinds):
                column = [row[matter] for row in table.rows]
                self.same(used(table, matter), tuple(c for c in range(kind) if c in column))
                for custom in range(kind):
                    valleys = tuple(v for v, cell in enumerate(column) if cell == custom)
                    if valleys:
                        self.same(having(table, matter, custom), valleys)
                    else:
                        self.refused(BadCustom, having, table, matter, custom)
            self.assertIs(is_full(table), all(cell is not None for row in table.rows for cell in row))
            groups = {tuple(v for v, row in enumerate(table.rows) if row == one) for one in table.rows}
            self.same(sorts(table), tuple(sorted(groups)))
            self.assertTrue(all(is_row(table, row) is True for row in table.rows))


if __name__ == "__main__":
    unittest.main()

"""Point 11: new tables out of old ones."""

import itertools
import unittest

from oncefound.changing import exchanged, kept, merged, picked, read, with_matter, with_row
from oncefound.errors import AllUnread, BadColumn, BadCustom, BadCustoms, BadKind, BadMatter, BadMatters, BadRow
from oncefound.errors import BadTable, BadValley, BadValleys, TooMany
from oncefound.tables import Table, used
from samples import Case, random_tables, table_a, tree_t, wrong_values

TWELVE = Table((2, 3), ((0, 2),) * 12)
EIGHT = Table((2,) * 8, ((0,) * 8, (1,) * 8))


class Kept(Case):
    def test_example(self):
        self.same(kept(table_a(), (1,)), Table((3,), ((0,), (None,), (0,), (2,))))
        self.same(kept(table_a(), (0,)), Table((2,), ((0,), (1,), (0,), (1,))))
        self.same(kept(table_a(), (0, 1)), table_a())

    def test_matters_of_eight(self):
        for size in range(1, 9):
            for matters in itertools.combinations(range(8), size):
                self.same(kept(EIGHT, matters), Table((2,) * size, ((0,) * size, (1,) * size)))

    def test_wrong_matters(self):
        for matters in wrong_values([(0,), (1,), (0, 1)]) + [(0, 1, 1), (0, 0, 1), (0, 1, 2), (2,), (0, None)]:
            self.refused(BadMatters, kept, table_a(), matters)
        self.refused(BadTable, kept, "no table", ())

    def test_a_matter_that_one_valley_has_read_stays(self):
        table = Table((2, 3, 4), ((None, None, 3), (None, 1, None), (0, None, None)))
        self.same(kept(table, (0, 2)), Table((2, 4), ((None, 3), (None, None), (0, None))))

    def test_against_what_the_words_say(self):
        for dice, table in random_tables(111):
            matters = tuple(sorted(dice.sample(range(len(table.kinds)), dice.randint(1, len(table.kinds)))))
            result = kept(table, matters)
            self.same(result.kinds, tuple(table.kinds[m] for m in matters))
            self.same(result.rows, tuple(tuple(row[m] for m in matters) for row in table.rows))


class Picked(Case):
    def test_example(self):
        self.refused(AllUnread, picked, table_a(), (1,), told={"matter": 1})
        self.same(picked(table_a(), (3, 1)), Table((2, 3), ((1, 2), (1, None))))
        self.same(picked(table_a(), (0, 1, 2, 3)), table_a())

    def test_the_first_matter_that_none_has_read(self):
        table = Table((2, 2, 2), ((0, None, None), (None, 0, 0), (None, None, 1)))
        self.refused(AllUnread, picked, table, (0,), told={"matter": 1})
        self.refused(AllUnread, picked, table, (1,), told={"matter": 0})
        self.refused(AllUnread, picked, table, (2, 1), told={"matter": 0})
        self.refused(AllUnread, picked, table, (2, 0), told={"matter": 1})
        self.same(picked(table, (1, 0)), Table((2, 2, 2), ((None, 0, 0), (0, None, None))))

    def test_one_valley_and_twelve(self):
        self.same(picked(table_a(), (3,)), Table((2, 3), ((1, 2),)))
        turned = tuple(range(11, -1, -1))
        table = Table((6, 2), tuple((number % 6, number // 6) for number in range(12)))
        self.same(picked(table, turned), Table((6, 2), table.rows[::-1]))

    def test_wrong_valleys(self):
        right = [(0,), (1,), (0, 1), (1, 0), (1, 2), (2, 3), (3, 2)]
        for valleys in wrong_values(right) + [(4,), (0, 4), (0, 1, 0), (0, 1, True), (0, None), (0, "1")]:
            self.refused(BadValleys, picked, table_a(), valleys)
        self.refused(BadTable, picked, tree_t(), None)

    def test_against_what_the_words_say(self):
        for dice, table in random_tables(112):
            valleys = tuple(dice.sample(range(len(table.rows)), dice.randint(1, len(table.rows))))
            rows = tuple(table.rows[v] for v in valleys)
            lacking = [m for m in range(len(table.kinds)) if all(row[m] is None for row in rows)]
            if lacking:
                self.refused(AllUnread, picked, table, valleys, told={"matter": lacking[0]})
            else:
                self.same(picked(table, valleys), Table(table.kinds, rows))


class Read(Case):
    def test_example(self):
        self.same(read(table_a(), 1, 1, 1), Table((2, 3), ((0, 0), (1, 1), (0, 0), (1, 2))))

    def test_customs_used_or_not_and_unread(self):
        for custom in (0, 1, 2, None):
            rows = ((0, 0), (1, None), (0, 0), (1, custom))
            self.same(read(table_a(), 3, 1, custom), Table((2, 3), rows))
        self.same(read(table_a(), 1, 1, None), table_a())
        self.same(read(table_a(), 0, 0, 0), table_a())

    def test_all_unread(self):
        table = Table((2, 3), ((0, None), (1, 2), (None, None)))
        self.refused(AllUnread, read, table, 1, 1, None, told={"matter": 1})
        self.same(read(table, 0, 1, None), table)
        self.same(read(table, 0, 0, None), Table((2, 3), ((None, None), (1, 2), (None, None))))
        self.same(read(table, 1, 1, 0), Table((2, 3), ((0, None), (1, 0), (None, None))))
        self.refused(AllUnread, read, Table((1,), ((0,),)), 0, 0, None, told={"matter": 0})

    def test_wrong_parameters(self):
        for custom in wrong_values([0, 1, 2, None]):
            self.refused(BadCustom, read, table_a(), 0, 1, custom)
        for matter in wrong_values([0, 1]):
            self.refused(BadMatter, read, table_a(), 0, matter, 0)
        for valley in wrong_values([0, 1, 2, 3]):
            self.refused(BadValley, read, table_a(), valley, 0, 0)
        self.refused(BadTable, read, None, 9, 9, 9)
        self.refused(BadValley, read, table_a(), 4, 2, 3)
        self.refused(BadMatter, read, table_a(), 3, 2, 3)
        self.refused(BadCustom, read, Table((1,), ((0,),)), 0, 0, 1)

    def test_against_what_the_words_say(self):
        for dice, table in random_tables(113):
            valley, matter = dice.randrange(len(table.rows)), dice.randrange(len(table.kinds))
            for custom in list(range(table.kinds[matter])) + [None]:
                rows = [list(row) for row in table.rows]
                rows[valley][matter] = custom
                if all(row[matter] is None for row in rows):
                    self.refused(AllUnread, read, table, valley, matter, custom, told={"matter": matter})
                else:
                    wanted = Table(table.kinds, tuple(map(tuple, rows)))
                    self.same(read(table, valley, matter, custom), wanted)


class WithRow(Case):
    def test_behind_all_others(self):
        self.same(with_row(table_a(), (1, None)), Table((2, 3), table_a().rows + ((1, None),)))
        self.same(with_row(table_a(), (None, None)), Table((2, 3), table_a().rows + ((None, None),)))

    def test_twelve_and_thirteen(self):
        eleven = Table((2, 3), ((0, 2),) * 11)
        self.same(with_row(eleven, (0, 2)), TWELVE)
        self.refused(TooMany, with_row, TWELVE, (0, 2), told={"most": 12})

    def test_wrong_rows(self):
        for row in wrong_values([(0, 1), (0, 0), (1, 0), (1, 1), (1, 2), (None, None)]):
            self.refused(BadRow, with_row, table_a(), row)
            self.refused(BadRow, with_row, TWELVE, row)
        self.refused(BadTable, with_row, "no table", "no row")


class WithMatter(Case):
    def test_behind_all_others(self):
        wanted = Table((2, 3, 4), ((0, 0, 3), (1, None, None), (0, 0, 0), (1, 2, 3)))
        self.same(with_matter(table_a(), 4, (3, None, 0, 3)), wanted)
        for kind in range(1, 7):
            result = with_matter(table_a(), kind, (None, None, kind - 1, None))
            self.same(result.kinds, (2, 3, kind))
            self.same(used(result, 2), (kind - 1,))

    def test_eight_and_nine(self):
        seven = kept(EIGHT, tuple(range(7)))
        self.same(with_matter(seven, 2, (0, 1)), EIGHT)
        self.refused(TooMany, with_matter, EIGHT, 2, (0, 1), told={"most": 8})
        self.refused(BadKind, with_matter, EIGHT, 7, (0, 1))
        self.refused(BadColumn, with_matter, EIGHT, 2, (0, 2))
        self.refused(BadColumn, with_matter, EIGHT, 2, (None, None))

    def test_wrong_kinds_and_columns(self):
        for kind in wrong_values([1, 2, 3, 4, 5, 6]):
            self.refused(BadKind, with_matter, table_a(), kind, (0, 0, 0, 0))
            self.refused(BadKind, with_matter, table_a(), kind, None)
        wrong = [
            (0, 0, 0), (0, 0, 0, 0, 0), [0, 0, 0, 0], (None,) * 4, (0, 0, 0, 2), (0, 0, 0, -1), (0, 0, 0, True),
            (False, 0, 0, 0), ("a", 0, 0, 0), ((0,), 0, 0, 0), ([], 0, 0, 0), ({}, 0, 0, 0), (table_a(), 0, 0, 0),
        ]
        for column in wrong_values([]) + wrong:
            self.refused(BadColumn, with_matter, table_a(), 2, column)
        self.refused(BadTable, with_matter, 0, 0, 0)


class Merged(Case):
    def test_example(self):
        self.same(merged(table_a(), 1, 2, 0), Table((2, 3), ((0, 2), (1, None), (0, 2), (1, 2))))
        self.same(merged(table_a(), 1, 0, 2), Table((2, 3), ((0, 0), (1, None), (0, 0), (1, 0))))
        self.same(merged(table_a(), 0, 0, 1), Table((2, 3), ((0, 0), (0, None), (0, 0), (0, 2))))

    def test_wrong_customs(self):
        for custom in wrong_values([0, 2]):
            self.refused(BadCustom, merged, table_a(), 1, custom, 0)
        for custom in wrong_values([2]):
            self.refused(BadCustom, merged, table_a(), 1, 0, custom)
        self.refused(BadCustom, merged, table_a(), 1, 0, 0)
        self.refused(BadCustom, merged, table_a(), 1, 2, 2)
        self.refused(BadCustom, merged, table_a(), 1, 1, 2)
        self.refused(BadCustom, merged, table_a(), 1, 2, 1)
        self.refused(BadCustom, merged, table_a(), 0, 0, True)
        self.refused(BadMatter, merged, table_a(), 2, 1, 1)
        self.refused(BadMatter, merged, table_a(), True, 1, 0)
        self.refused(BadTable, merged, None, None, None, None)

    def test_against_what_the_words_say(self):
        for dice, table in random_tables(114):
            matter = dice.randrange(len(table.kinds))
            for one, other in itertools.permutations(used(table, matter), 2):
                result = merged(table, matter, one, other)
                self.same(result.kinds, table.kinds)
                for before, after in zip(table.rows, result.rows):
                    wanted = list(before)
                    wanted[matter] = one if before[matter] == other else before[matter]
                    self.same(after, tuple(wanted))


class Exchanged(Case):
    def test_example(self):
        result = exchanged(table_a(), (1, 0), (3, 1, 0, 2), ((1, 0), (0, 1, 2)))
        self.same(result, Table((3, 2), ((2, 0), (None, 0), (0, 1), (0, 1))))
        self.same(exchanged(table_a(), (0, 1), (0, 1, 2, 3), ((0, 1), (0, 1, 2))), table_a())

    def test_wrong_parameters(self):
        rows, customs = (0, 1, 2, 3), ((0, 1), (0, 1, 2))
        for matters in wrong_values([(0, 1), (1, 0)]) + [(0, 1, 1), (0, 1, 2)]:
            self.refused(BadMatters, exchanged, table_a(), matters, rows, customs)
        for valleys in wrong_values([]) + [(0, 1, 2), (0, 1, 2, 2), (0, 1, 2, 4), (0, 1, 2, 3, 3), [0, 1, 2, 3]]:
            self.refused(BadValleys, exchanged, table_a(), (0, 1), valleys, customs)
        self.refused(BadValleys, exchanged, table_a(), (0, 1), (0, True, 2, 3), customs)
        wrong = [
            ((0, 1),), ((0, 1), (0, 1)), ((0, 1), (0, 2)), ((0, 1), (0, 1, 1)), ((0, 1), (0, 1, 3)),
            ((0, 1, 2), (0, 1)), ((0, 1), [0, 1, 2]), [(0, 1), (0, 1, 2)], ((False, True), (0, 1, 2)),
            ((0, 1), (0, 1, 2), ()), ((0, 1), (0, 1, 2, 3)), ((0, 1), None), ((0, 1), "abc"), ((0, 1), {0: 1}),
            ((0, 1), (0, None, 2)), ((0, 1), (0, 1, 2), (0,)),
        ]
        for thing in wrong_values([]) + wrong:
            self.refused(BadCustoms, exchanged, table_a(), (0, 1), rows, thing)

    def test_order_of_errors(self):
        self.refused(BadTable, exchanged, None, None, None, None)
        self.refused(BadMatters, exchanged, table_a(), (0,), (0,), ())
        self.refused(BadValleys, exchanged, table_a(), (1, 0), (0,), ())

    def test_against_what_the_words_say(self):
        for dice, table in random_tables(115):
            matters = tuple(dice.sample(range(len(table.kinds)), len(table.kinds)))
            valleys = tuple(dice.sample(range(len(table.rows)), len(table.rows)))
            customs = tuple(tuple(dice.sample(range(kind), kind)) for kind in table.kinds)
            result = exchanged(table, matters, valleys, customs)
            for k, matter in enumerate(matters):
                self.assertEqual(result.kinds[k], table.kinds[matter])
                for v, valley in enumerate(valleys):
                    old = table.rows[valley][matter]
                    self.assertEqual(result.rows[v][k], None if old is None else customs[matter][old])
            back = tuple(tuple(customs[m].index(c) for c in range(table.kinds[m])) for m in matters)
            matters_back = tuple(matters.index(m) for m in range(len(matters)))
            valleys_back = tuple(valleys.index(v) for v in range(len(valleys)))
            self.same(exchanged(result, matters_back, valleys_back, back), table)


if __name__ == "__main__":
    unittest.main()

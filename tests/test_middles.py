"""Point 31: majorities, the closure, crossing matters and steps back."""

import itertools
import random
import unittest

from oncefound.errors import BadRow, BadValley, NotTwo, TooMany, Unread
from oncefound.fillings import filling, fillings_many
from oncefound.middles import closure, crossing_lots, majority, steps_back
from oncefound.splits import crossed, least_tree, table_of
from oncefound.tables import Table, used
from oncefound.trees import middle, partings
from oracles import closed, cross, most, normal_trees, split_of
from samples import Case, wrong_values
from test_splits import all_twos, cross_in, random_two, table_t, table_u

# Six rows in which each two of the eight columns have all four pairs.
CROSSING = (
    (0, 0, 0, 0, 0, 0, 0, 0), (0, 0, 0, 0, 1, 1, 1, 1), (0, 1, 1, 1, 0, 0, 0, 1),
    (1, 0, 1, 1, 0, 1, 1, 0), (1, 1, 0, 1, 1, 0, 1, 0), (1, 1, 1, 0, 1, 1, 0, 1),
)


def crossing_table(matters, more=()):
    """A table of matters each two of which cross, and of further columns."""
    rows = tuple(row[:matters] + cells for row, cells in zip(CROSSING, tuple(zip(*more)) or ((),) * 6))
    return Table(tuple(max(cells) + 1 for cells in zip(*rows)), rows)


def leading_in(table):
    splits = [split_of(table, matter) for matter in range(len(table.kinds))]
    return [matter for matter, split in enumerate(splits) if split and split not in splits[:matter]]


def lots_in(table):
    """All lots of leading matters each two of which cross, in their sequence."""
    leading = leading_in(table)
    lots = [lot for size in range(9) for lot in itertools.combinations(leading, size)]
    return [lot for lot in lots if all(cross_in(table, *pair) for pair in itertools.combinations(lot, 2))]


def steps_in(table, rows, row):
    """The leading matters that can be taken back in row, one of the closure's rows."""
    own, found = table.rows[0], []
    for matter in leading_in(table):
        split = split_of(table, matter)
        back = tuple(own[at] if split_of(table, at) == split else cell for at, cell in enumerate(row))
        if row[matter] != own[matter] and back in rows:
            found.append(matter)
    return tuple(found)


def random_twos(seed, times=120, most=8):
    dice = random.Random(seed)
    for _ in range(times):
        yield dice, random_two(dice, min(most, dice.choice((1, 2, 3, 3, 4, 4, 5, 6, 8))))


class Example(Case):
    def test_t(self):
        self.same(majority(table_t(), 0, 1, 2), (1, 0, 0))
        self.same(closure(table_t()), ((0, 0, 0), (1, 0, 0), (1, 0, 1), (1, 1, 0)))
        self.same(crossing_lots(table_t()), ((), (0,), (1,), (2,)))
        self.same(steps_back(table_t(), (1, 1, 0)), (1,))

    def test_u(self):
        self.same(closure(table_u()), tuple(itertools.product((0, 1), repeat=3)))
        wanted = ((), (0,), (1,), (2,), (0, 1), (0, 2), (1, 2), (0, 1, 2))
        self.same(crossing_lots(table_u()), wanted)
        self.same(steps_back(table_u(), (1, 1, 1)), (0, 1, 2))


class Majority(Case):
    def test_valleys_that_are_equal(self):
        table = Table((6, 6), ((5, 2), (3, 2), (5, 4)))
        for one, other in itertools.product(range(3), repeat=2):
            for valleys in ((one, one, other), (one, other, one), (other, one, one)):
                self.same(majority(table, *valleys), table.rows[one])
        for valleys in itertools.permutations(range(3)):
            self.same(majority(table, *valleys), (5, 2))

    def test_against_what_the_words_say(self):
        for dice, table in random_twos(601, 60):
            for _ in range(20):
                valleys = [dice.randrange(len(table.rows)) for _ in range(3)]
                self.same(majority(table, *valleys), most(*[table.rows[valley] for valley in valleys]))

    def test_wrong_valleys(self):
        for valley in wrong_values([0, 1, 2]):
            self.refused(BadValley, majority, table_t(), valley, 0, 0)
            self.refused(BadValley, majority, table_t(), 0, valley, 0)
            self.refused(BadValley, majority, table_t(), 0, 0, valley)


class Closure(Case):
    def test_edges(self):
        self.same(closure(Table((6,), ((5,),))), ((5,),))
        self.same(closure(Table((6,), ((5,), (2,), (5,)))), ((2,), (5,)))
        self.same(closure(Table((1,) * 8, ((0,) * 8,) * 12)), ((0,) * 8,))
        self.same(closure(Table((3, 3), ((2, 2), (0, 0)))), ((0, 0), (2, 2)))
        self.same(closure(Table((3, 3), ((2, 2), (0, 0), (0, 2)))), ((0, 0), (0, 2), (2, 2)))

    def test_against_what_the_words_say(self):
        sizes = set()
        for _, table in random_twos(602):
            rows = closed(table.rows, 64)
            sizes.add(min(len(rows), 65))
            if len(rows) > 64:
                self.refused(TooMany, closure, table, told={"most": 64})
                self.refused(TooMany, crossing_lots, table, told={"most": 64})
            else:
                self.same(closure(table), tuple(sorted(rows)))
        self.assertTrue(len(sizes) > 12 and 65 in sizes, sizes)

    def test_each_two_customs_of_a_row_are_had_by_some_valley(self):
        for many, matters in ((1, 2), (2, 2), (3, 2), (4, 2), (3, 3)):
            for table in all_twos(many, matters):
                rows = closed(table.rows)
                self.same(closure(table), tuple(sorted(rows)))
                for row in itertools.product(*[used(table, matter) for matter in range(matters)]):
                    pairs = itertools.combinations(range(matters), 2)
                    had = all(any(v[a] == row[a] and v[b] == row[b] for v in table.rows) for a, b in pairs)
                    self.assertIs(row in rows, had)

    def test_two_matters_cross_exactly_if_all_four_pairs_are_in_it(self):
        for _, table in random_twos(603, 80, 6):
            rows = closed(table.rows)
            for one, other in itertools.combinations(range(len(table.kinds)), 2):
                pairs = {(row[one], row[other]) for row in rows}
                self.assertIs(len(pairs) == 4, cross(split_of(table, one), split_of(table, other)))


class CrossingLots(Case):
    def test_matters_that_are_not_leading(self):
        # Matter 0 has no parting; matters 2 and 4 have that of matter 1, matter 5 that of matter 3.
        columns = [(0,) * 4, (0, 0, 1, 1), (1, 1, 0, 0), (0, 1, 0, 1), (0, 0, 1, 1), (1, 0, 1, 0)]
        table = Table((2,) * 6, tuple(zip(*columns)))
        self.same(crossing_lots(table), ((), (1,), (3,), (1, 3)))
        self.same(closure(table), tuple(sorted(table.rows)))
        self.same([steps_back(table, row) for row in table.rows], [(), (3,), (1,), (1, 3)])

    def test_the_sequence(self):
        columns = [(0, 0, 0, 1, 1), (0, 1, 1, 0, 0), (0, 1, 0, 1, 0), (0, 0, 1, 0, 1)]
        table = Table((2,) * 4, tuple(zip(*columns)))
        self.same(crossing_lots(table), ((), (0,), (1,), (2,), (3,), (0, 2), (0, 3), (1, 2), (1, 3)))

    def test_edges(self):
        self.same(crossing_lots(Table((6,), ((5,),))), ((),))
        self.same(crossing_lots(Table((1,) * 8, ((0,) * 8,) * 12)), ((),))
        self.same(crossing_lots(Table((6,), ((5,), (2,)))), ((), (0,)))

    def test_against_what_the_words_say(self):
        for _, table in random_twos(604):
            lots = lots_in(table)
            if len(lots) > 64:
                self.refused(TooMany, crossing_lots, table, told={"most": 64})
            else:
                self.same(crossing_lots(table), tuple(lots))

    def test_64_and_65_rows(self):
        own = (0, 0, 0, 0, 0, 1)
        for table, many in (
            (crossing_table(6), 64), (crossing_table(6, [(1,) * 6]), 64), (crossing_table(6, [(0,) * 6] * 2), 64),
            (crossing_table(6, [[row[2] for row in CROSSING]]), 64), (crossing_table(5, [own]), 33),
        ):
            self.assertEqual((len(closure(table)), len(crossing_lots(table))), (many, many))
            self.same(closure(table), tuple(sorted(closed(table.rows))))
        # A matter that crosses none of the six has a lot of its own, and one row more.
        for table, many in ((crossing_table(6, [own]), 65), (crossing_table(7), 128), (crossing_table(8), 256)):
            self.assertEqual(len(closed(table.rows, 64)) > 64, True)
            self.assertEqual(len(lots_in(table)), many)
            self.refused(TooMany, closure, table, told={"most": 64})
            self.refused(TooMany, crossing_lots, table, told={"most": 64})
        self.assertEqual(len(closed(crossing_table(6, [own]).rows)), 65)

    def test_too_many_comes_behind_all_others(self):
        for function in (closure, crossing_lots):
            three = crossing_table(7, [(0, 0, 1, 1, 2, 2)])
            self.refused(NotTwo, function, three, told={"matter": 7})
            self.refused(Unread, function, Table(three.kinds, ((0,) * 7 + (None,),) + three.rows))
            self.refused(TooMany, function, crossing_table(7), told={"most": 64})


class StepsBack(Case):
    def test_of_more_than_64_rows(self):
        table = crossing_table(8)
        for row in itertools.product((0, 1), repeat=8):
            self.same(steps_back(table, row), tuple(matter for matter in range(8) if row[matter] == 1))
        more = crossing_table(6, [(0, 0, 0, 0, 0, 1)])
        self.same(steps_back(more, (1, 1, 1, 0, 1, 1, 1)), (6,))
        self.same(steps_back(more, (1, 1, 1, 0, 1, 1, 0)), (0, 1, 2, 4, 5))
        self.refused(BadRow, steps_back, more, (1, 1, 1, 1, 1, 1, 1))

    def test_edges(self):
        self.same(steps_back(Table((6,), ((5,),)), (5,)), ())
        self.same(steps_back(Table((6,), ((5,), (2,))), (5,)), ())
        self.same(steps_back(Table((6,), ((5,), (2,))), (2,)), (0,))

    def test_rows_and_lots_are_one_to_one(self):
        for _, table in random_twos(605, 120, 6):
            rows = closed(table.rows)
            told = {row: steps_back(table, row) for row in rows}
            self.assertEqual(sorted(told.values()), sorted(lots_in(table)))
            for row in sorted(rows)[:20]:
                self.same(told[row], steps_in(table, rows, row))

    def test_wrong_rows(self):
        right = closure(table_t())
        for row in wrong_values([]):
            self.refused(BadRow, steps_back, table_t(), row)
        for row in itertools.product((0, 1, 2, -1, None, True, False, "0"), repeat=3):
            if repr(row) in map(repr, right):
                steps_back(table_t(), row)
            else:
                self.refused(BadRow, steps_back, table_t(), row)
        for row in ([1, 1, 0], (1, 1), (1, 1, 0, 0), {0: 1, 1: 1, 2: 0}, "110", ((1,), (1,), (0,)), ()):
            self.refused(BadRow, steps_back, table_t(), row)
        for row in wrong_values([(0,), (1,)]):
            self.refused(BadRow, steps_back, Table((2,), ((0,), (1,))), row)
        # Customs of the kind that no valley has.
        self.refused(BadRow, steps_back, Table((6,), ((5,), (2,))), (3,))


class LeastTreeFilling(Case):
    def is_right(self, table):
        tree, rows = least_tree(table), filling(least_tree(table), table)
        self.same(fillings_many(tree, table), 1)
        self.assertEqual(len(set(rows)), len(rows))
        self.same(tuple(sorted(rows)), closure(table))
        self.assertEqual(len(crossing_lots(table)), len(rows))
        for three in itertools.product(range(len(table.rows)), repeat=3):
            place = middle(tree, *[tree.seats[valley] for valley in three])
            self.same(rows[place], majority(table, *three))
        for number, lot in enumerate(partings(tree)):
            for matter, cell in enumerate(rows[number + 1]):
                split = split_of(table, matter)
                self.assertIs(cell == table.rows[0][matter], not split or bool(set(lot) - split))

    def test_it_has_one_filling_whose_rows_are_the_closure(self):
        for many in (1, 2, 3, 4):
            for tree in normal_trees(many):
                self.is_right(table_of(tree))
        dice = random.Random(606)
        some = 0
        while some < 60:
            table = random_two(dice, dice.choice((1, 2, 3, 4)), dice.choice((1, 2, 3, 4, 5)))
            if crossed(table) is None:
                self.is_right(table)
                some += 1


if __name__ == "__main__":
    unittest.main()

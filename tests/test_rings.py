"""Points 50 and 51: more ties, rings, and rings without a tie across."""

import itertools
import random
import unittest

from oncefound.closings import is_closing
from oncefound.errors import BadMore, BadTable
from oncefound.rings import is_ring, open_ring
from oncefound.tables import Table
from oncefound.web import marks, web
from oracles import across, all_rings, had_together, legal_ties, open_ones
from samples import Case, any_values, crowded_tables, spoiled, table_a, wrong_values
from test_web import table_apart, table_square

RING = ((0, 0), (1, 0), (0, 1), (1, 1))
LONG = ((0, 0), (1, 0), (0, 1), (2, 0))
ACROSS = (((1, 0), (2, 0)),)


def turned(ring):
    """The same ring begun at each of its marks, both ways round."""
    for way in (ring, ring[::-1]):
        for start in range(len(ring)):
            yield way[start:] + way[:start]


def small_tables(seed, times):
    """Tables of few marks, with some more ties."""
    for dice, table in crowded_tables(seed, times, (2, 4, 5, 6), (1, 2, 3), 3, (0, 0.2, 0.4)):
        legal = legal_ties(table)
        more = tuple(sorted(dice.sample(legal, dice.randint(0, min(len(legal), 5)))))
        if len(web(table) + more) <= 17:
            yield dice, table, more


class IsRing(Case):
    def test_example(self):
        for ring in turned(RING):
            self.assertIs(is_ring(table_square(), (), ring), True)
        for ring in turned(LONG):
            self.assertIs(is_ring(table_apart(), (), ring), True)
            # It may have a tie across.
            self.assertIs(is_ring(table_apart(), ACROSS, ring), True)

    def test_three_marks_are_no_ring(self):
        table = Table((2, 2, 2), ((0, 0, None), (None, 0, 0), (0, None, 0)))
        for marked in itertools.permutations(((0, 0), (1, 0), (2, 0))):
            self.assertIs(is_ring(table, (), marked), False)
        self.assertIs(open_ring(table, ()), None)
        self.assertIs(is_ring(Table((1,) * 4, ((0,) * 4,)), (), ((0, 0), (1, 0), (2, 0), (3, 0))), True)

    def test_marks_of_one_matter_are_not_tied(self):
        table = Table((2, 2, 1), ((0, 0, 0), (1, 1, None)))
        self.assertIs(is_ring(table, (), ((0, 0), (0, 1), (1, 1), (1, 0))), False)
        self.assertIs(is_ring(table, (((0, 0), (1, 1)),), ((0, 0), (1, 1), (0, 1), (1, 0))), False)
        more = (((0, 0), (1, 1)), ((0, 1), (1, 0)))
        self.assertIs(is_ring(table, more, ((0, 0), (1, 1), (0, 1), (1, 0))), True)

    def test_the_same_mark_twice(self):
        ring = ((0, 0), (1, 0), (0, 1), (1, 0))
        self.assertIs(is_ring(table_square(), (), ring), False)
        self.assertIs(is_ring(table_square(), (), RING + RING), False)

    def test_what_is_written_otherwise_is_none(self):
        for thing in spoiled(RING):
            self.assertIs(is_ring(table_square(), (), thing), False, thing)
        for value in any_values():
            self.assertIs(is_ring(table_square(), (), value), False)
            self.assertIs(is_ring(table_apart(), ACROSS, value), False)

    def test_just_those_of_the_words(self):
        found = {True: 0, False: 0}
        for dice, table, more in small_tables(1201, 60):
            ties = had_together(table) + list(more)
            right = {ring for one in all_rings(ties) for ring in turned(one)}
            for size in (3, 4):
                for thing in itertools.permutations(marks(table)[:7], size):
                    self.assertIs(is_ring(table, more, thing), thing in right)
                    found[thing in right] += 1
            for thing in list(right)[:50]:
                self.assertIs(is_ring(table, more, thing), True)
                self.assertIs(is_ring(table, more, thing[1:]), thing[1:] in right)
        self.assertTrue(min(found.values()) > 200, found)


class OpenRing(Case):
    def test_example(self):
        self.assertIn(open_ring(table_square(), ()), list(turned(RING)))
        self.assertIn(open_ring(table_apart(), ()), list(turned(LONG)))
        self.assertIs(open_ring(table_apart(), ACROSS), None)

    def test_a_web_without_any_ring(self):
        for table in (table_a(), Table((6,), ((4,),)), Table((6,), tuple((valley % 6,) for valley in range(12))),
                      Table((2, 2), ((0, 0), (0, 1), (1, 1))), Table((1,) * 8, ((0,) * 8,) * 12)):
            self.assertIs(open_ring(table, ()), None)

    def test_a_ring_that_has_one_only_with_more(self):
        table = Table((2, 2), ((0, 0), (0, 1), (1, 1)))
        self.assertIn(open_ring(table, (((0, 1), (1, 0)),)), list(turned(((0, 0), (1, 0), (0, 1), (1, 1)))))

    def test_long_rings(self):
        # Valley by valley the two matters take turns: a ring of all twelve marks.
        rows = tuple((valley // 2, (valley + 1) // 2 % 6) for valley in range(12))
        table = Table((6, 6), rows)
        ring = open_ring(table, ())
        self.assertEqual(len(ring), 12)
        self.assertIs(is_ring(table, (), ring), True)
        some = open_ring(table, (((0, 0), (1, 3)),))
        self.assertIn(len(some), (6, 8))

    def test_against_all_rings(self):
        found = {True: 0, False: 0}
        for _, table, more in small_tables(1202, 300):
            ties = had_together(table) + list(more)
            right = open_ones(ties)
            ring = open_ring(table, more)
            self.assertIs(ring is None, not right)
            self.assertIs(is_closing(table, more), not right)
            if ring is not None:
                self.assertIs(is_ring(table, more, ring), True)
                self.assertFalse(set(across(ring)) & set(ties))
                self.assertIn(frozenset(ring), {frozenset(one) for one in right})
            found[ring is None] += 1
        self.assertTrue(min(found.values()) > 40, found)


class Errors(Case):
    def test_bad_table_then_bad_more(self):
        for value in any_values():
            if not isinstance(value, Table):
                self.refused(BadTable, open_ring, value, None)
                self.refused(BadTable, is_ring, value, None, RING)
        for value in wrong_values([()]):
            self.refused(BadMore, open_ring, table_apart(), value)
            self.refused(BadMore, is_ring, table_apart(), value, LONG)
            self.refused(BadMore, is_ring, table_apart(), value, None)

    def test_more(self):
        table = Table((2, 2, 2), ((0, 0, None), (1, None, 0), (None, 1, 1)))
        right = (((0, 0), (1, 1)), ((0, 0), (2, 0)), ((1, 0), (2, 1)))
        self.assertIn(type(open_ring(table, right)), (tuple, type(None)))
        wrong = [
            (((0, 0), (1, 0)),), (((0, 0), (0, 1)),), (((1, 1), (0, 0)),), (((0, 0), (1, 1)), ((0, 0), (1, 1))),
            (((0, 0), (2, 0)), ((0, 0), (1, 1))), (((0, 0), (1, 2)),), (((0, 0), (3, 0)),), (((0, 0), (0, 0)),),
            (((0, 0), (-1, 0)),), (((0, 0), (1, 1), (2, 0)),), (((0, 0),),), ((0, 0), (1, 1)), (((0, 0), (1, None)),),
            (((0, 0), (1, 1)), ((0, 1), (2, 0))), (((0, 0), (1, True)),), (((False, 0), (1, 1)),),
        ]
        for more in wrong + [other for other in spoiled(right) if other not in ((), right[1:], right[:2], right[::2])]:
            self.refused(BadMore, open_ring, table, more)
            self.refused(BadMore, is_ring, table, more, RING)
            self.assertIs(is_closing(table, more), False)

    def test_an_unused_custom_is_no_mark(self):
        table = Table((6, 6, 6), ((5, None, 2), (None, 3, None)))
        self.refused(BadMore, open_ring, table, (((0, 4), (1, 3)),))
        self.assertIs(open_ring(table, (((0, 5), (1, 3)),)), None)


class Random(Case):
    def test_rings_of_great_tables(self):
        dice = random.Random(1203)
        for _, table in crowded_tables(1204, 15, (10, 12), (6, 8), 6, (0.2, 0.5)):
            legal = legal_ties(table)
            more = tuple(sorted(dice.sample(legal, len(legal) // 10)))
            ring = open_ring(table, more)
            self.assertIs(is_ring(table, more, ring), True)
            self.assertFalse(set(across(ring)) & set(web(table) + more))


if __name__ == "__main__":
    unittest.main()

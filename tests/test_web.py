"""Point 50: marks and the web."""

import random
import unittest

from oncefound.errors import BadTable
from oncefound.tables import Table
from oncefound.web import marks, web
from oracles import had_together, marks_of
from samples import Case, any_values, random_table, table_a

SQUARE = (((0, 0), (1, 0)), ((0, 0), (1, 1)), ((0, 1), (1, 0)), ((0, 1), (1, 1)))


def table_square():
    """The first table of point 53."""
    return Table((2, 2), ((0, 0), (0, 1), (1, 1), (1, 0)))


def table_apart():
    """The second table of point 53."""
    return Table((2, 1, 1), ((0, 0, None), (1, 0, None), (1, None, 0), (0, None, 0)))


class Web(Case):
    def test_example(self):
        self.same(marks(table_square()), ((0, 0), (0, 1), (1, 0), (1, 1)))
        self.same(web(table_square()), SQUARE)
        wanted = (((0, 0), (1, 0)), ((0, 0), (2, 0)), ((0, 1), (1, 0)), ((0, 1), (2, 0)))
        self.same(web(table_apart()), wanted)

    def test_used_customs_alone_and_read_cells_alone(self):
        table = table_a()
        self.same(marks(table), ((0, 0), (0, 1), (1, 0), (1, 2)))
        self.same(web(table), (((0, 0), (1, 0)), ((0, 1), (1, 2))))
        table = Table((6, 6), ((5, None), (None, 3), (None, None)))
        self.same(marks(table), ((0, 5), (1, 3)))
        self.same(web(table), ())

    def test_one_valley_and_twelve_one_matter_and_eight(self):
        self.same(marks(Table((6,), ((4,),))), ((0, 4),))
        self.same(web(Table((6,), ((4,),))), ())
        self.same(web(Table((6,), tuple((valley % 6,) for valley in range(12)))), ())
        table = Table((6,) * 8, tuple((valley % 6,) * 8 for valley in range(12)))
        self.assertEqual(len(marks(table)), 48)
        self.assertEqual(len(web(table)), 6 * 28)
        # As many ties as there can be.
        shifted = [tuple((valley * matter) % 6 for matter in range(8)) for valley in range(12)]
        self.same(web(Table((6,) * 8, tuple(shifted))), tuple(had_together(Table((6,) * 8, tuple(shifted)))))

    def test_against_what_the_words_say(self):
        dice = random.Random(1101)
        for _ in range(60):
            table = random_table(dice)
            self.same(marks(table), tuple(marks_of(table)))
            self.same(web(table), tuple(had_together(table)))

    def test_bad_table(self):
        for value in any_values():
            if not isinstance(value, Table):
                self.refused(BadTable, marks, value)
                self.refused(BadTable, web, value)


if __name__ == "__main__":
    unittest.main()

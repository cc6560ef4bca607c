"""Point 60, second half: chains of demands."""

import itertools
import random
import unittest

from oncefound.chains import chain, is_chain
from oncefound.changing import kept
from oncefound.chooser import some_fit
from oncefound.errors import BadTable, NotThree, Unread
from oncefound.tables import Table
from oncefound.threes import bad_three, pairs_example
from oracles import cross, used_customs
from samples import Case, any_values, spoiled, table_a
from test_facts import some_fits
from test_threes import threes

CHAIN = (
    ((0, 2, "outer"), (1, 1, "middle"), (1, 0, "outer"), (0, 2, "middle")),
    ((0, 2, "middle"), (0, 0, "outer"), (2, 1, "middle"), (2, 0, "outer"), (0, 0, "middle"), (0, 2, "outer")),
)
# Two matters of two customs that cross.
TWO = Table((2, 2), ((0, 0), (0, 1), (1, 0), (1, 1)))
TWO_CHAIN = (((0, 0, "outer"), (1, 0, "middle"), (1, 0, "outer"), (0, 0, "middle")),
             ((0, 0, "middle"), (0, 0, "outer")))


def lone(table, matter, custom):
    have = [valley for valley, row in enumerate(table.rows) if row[matter] == custom]
    return have if 0 not in have else [valley for valley in range(len(table.rows)) if valley not in have]


def does_make(table, demand, other):
    """The words of the document for what a demand makes."""
    (matter, custom, word), (another, there, made) = demand, other
    if (word, made) == ("outer", "middle"):
        return matter != another and cross(lone(table, matter, custom), lone(table, another, there))
    if (word, made) == ("middle", "outer"):
        return matter == another and (custom != there or len(used_customs(table, matter)) == 2)
    return False


def all_demands(table):
    matters = [matter for matter in range(len(table.kinds)) if len(used_customs(table, matter)) > 1]
    return [(matter, custom, word) for matter in matters for custom in used_customs(table, matter)
            for word in ("middle", "outer")]


def is_judged_chain(table, thing):
    there, back = thing
    demands = all_demands(table)
    for way in thing:
        if len(way) < 2 or any(demand not in demands for demand in way):
            return False
        if not all(does_make(table, *pair) for pair in zip(way, way[1:])):
            return False
    start, middle = there[0], there[-1]
    return start[2] == "outer" and middle == start[:2] + ("middle",) and (back[0], back[-1]) == (middle, start)


def nudged(dice, table, thing):
    ways = [list(way) for way in thing]
    way = dice.choice(ways)
    kind = dice.randrange(4)
    if kind == 0:
        way[dice.randrange(len(way))] = dice.choice(all_demands(table))
    elif kind == 1:
        del way[dice.randrange(len(way))]
    elif kind == 2:
        # A step away and back, where there is one.
        at = dice.randrange(len(way))
        way[at + 1:at + 1] = [dice.choice(all_demands(table)), way[at]]
    else:
        ways.reverse()
    return tuple(map(tuple, ways))


class Chain(Case):
    def test_example(self):
        table = pairs_example()
        self.assertIs(is_chain(table, CHAIN), True)
        self.assertIs(is_chain(table, chain(table)), True)
        for lot in itertools.combinations(range(3), 2):
            self.assertIs(chain(kept(table, lot)), None)

    def test_exactly_where_no_tree_fits(self):
        found = {True: 0, False: 0}
        for _, table in threes(1701, 200, (1, 2, 3, 4, 4, 4)):
            told = chain(table)
            self.assertIs(told is None, some_fits(table))
            found[told is None] += 1
        self.assertTrue(min(found.values()) > 20, found)
        found = {True: 0, False: 0}
        for _, table in threes(1702, 300):
            told = chain(table)
            self.assertIs(told is None, some_fit(table))
            self.assertIs(told is None, bad_three(table) is None)
            if told is not None:
                self.assertIs(is_chain(table, told), True)
                self.assertIs(is_judged_chain(table, told), True)
            found[told is None] += 1
        self.assertTrue(min(found.values()) > 20, found)

    def test_three_matters_are_enough(self):
        for _, table in threes(1703, 60, matters=(4, 6, 8)):
            lot = bad_three(table)
            if lot is not None:
                told = chain(kept(table, lot))
                named = tuple(tuple((lot[matter], custom, word) for matter, custom, word in way) for way in told)
                self.assertIs(is_chain(table, named), True)

    def test_matters_of_two_customs_and_of_one(self):
        self.assertIs(is_chain(TWO, TWO_CHAIN), True)
        self.assertIs(is_chain(TWO, chain(TWO)), True)
        table = Table((6, 1, 6), ((5, 0, 4), (5, 0, 2), (3, 0, 4), (3, 0, 2)))
        told = chain(table)
        self.assertIs(is_chain(table, told), True)
        self.assertNotIn(1, {matter for way in told for matter, _, _ in way})
        self.assertIs(chain(Table((1,) * 8, ((0,) * 8,) * 12)), None)
        self.assertIs(chain(Table((6,), ((5,),))), None)


class IsChain(Case):
    def test_the_same_custom_again_in_a_matter_of_two_alone(self):
        self.assertIs(is_chain(TWO, TWO_CHAIN), True)
        table = pairs_example()
        back = ((0, 2, "middle"), (0, 2, "outer"))
        self.assertIs(is_chain(table, (CHAIN[0], back)), False)

    def test_wrong_ends(self):
        there, back = CHAIN
        table = pairs_example()
        wrong = [
            (back, there), (there, there), (back, back), (there, there[::-1]), (there[1:], back), (there[:-1], back),
            (there, back[1:]), (there, back[:-1]), (there[:1], back), (there, back[:1]), (there, ()), ((), back),
            (there, back, back), (there,), (), (there + back[1:] + there[1:], back),
        ]
        for thing in wrong:
            wanted = thing == wrong[-1]
            self.assertIs(is_chain(table, thing), wanted, thing)
        self.assertIs(is_chain(TWO, (TWO_CHAIN[1], TWO_CHAIN[0])), False)
        # There and back of different customs.
        other = (((0, 0, "outer"), (1, 0, "middle"), (1, 0, "outer"), (0, 0, "middle")),
                 ((0, 1, "middle"), (0, 1, "outer")))
        self.assertIs(is_chain(TWO, other), False)

    def test_what_is_written_otherwise_is_none(self):
        for table, right in ((pairs_example(), CHAIN), (TWO, TWO_CHAIN)):
            for thing in spoiled(right):
                self.assertIs(is_chain(table, thing), False, thing)
        for value in any_values():
            self.assertIs(is_chain(pairs_example(), value), False)

    def test_demands(self):
        there, back = CHAIN
        table = pairs_example()
        wrong = [
            (0, 3, "outer"), (3, 0, "outer"), (-1, 2, "outer"), (0, 2), (0, 2, "outer", 0), (False, 2, "outer"),
            (0, 2, "Outer"), (0, 2, None), (0, 2, ("outer",)), (0, 2, {"outer": 0}), [0, 2, "outer"], None,
            (0, None, "outer"), ("0", 2, "outer"), (0, "2", "outer"), (0, [2], "outer"),
        ]
        for demand in wrong:
            self.assertIs(is_chain(table, ((demand,) + there[1:], back[:-1] + (demand,))), False)
        one = Table((1, 2, 2), tuple((0,) + row for row in TWO.rows))
        named = tuple(tuple((matter + 1, custom, word) for matter, custom, word in way) for way in TWO_CHAIN)
        self.assertIs(is_chain(one, named), True)
        self.assertIs(is_chain(one, TWO_CHAIN), False)

    def test_nudged_chains_against_what_the_words_say(self):
        found = {True: 0, False: 0}
        dice = random.Random(1704)
        for _, table in threes(1705, 60, (5, 6, 8), (2, 3, 4)):
            told = chain(table)
            for _ in range(60 if told is not None else 0):
                thing = nudged(dice, table, told)
                wanted = is_judged_chain(table, thing)
                self.assertIs(is_chain(table, thing), wanted, thing)
                found[wanted] += 1
        self.assertTrue(min(found.values()) > 50, found)


class Errors(Case):
    def test_bad_table_then_unread_then_not_three(self):
        four = Table((1, 5), ((0, 0), (0, 1), (0, 3), (0, 4)))
        for value in any_values():
            if not isinstance(value, Table):
                self.refused(BadTable, chain, value)
                self.refused(BadTable, is_chain, value, CHAIN)
            self.refused(Unread, is_chain, table_a(), value)
            self.refused(NotThree, is_chain, four, value, told={"matter": 1})
        self.refused(Unread, chain, table_a())
        self.refused(Unread, chain, Table((4, 1), ((0, 0), (1, None), (2, 0), (3, 0))))
        self.refused(NotThree, chain, four, told={"matter": 1})


if __name__ == "__main__":
    unittest.main()

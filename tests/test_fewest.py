"""Point 90: fewest changes, ways that have them, and extra."""

import random
import unittest

from oncefound.errors import BadMatter, BadPlace, BadTable, BadTree, OtherMany, Unlike
from oncefound.fewest import customs_at, extra, fewest, first_way, ways_many
from oncefound.fillings import choices, fillings_many
from oncefound.pieces import fits
from oncefound.tables import Table, used
from oncefound.trees import Tree, added, finer, partings
from oracles import loose_columns, normal_trees, renumbered
from samples import Case, any_values, crowded_table, random_history, random_table, random_tree, tree_t, wrong_values

CROSSED = Table((2,), ((0,), (1,), (1,), (0,)))
OF_A_MATTER = (fewest, ways_many, first_way)


def changes_of(tree, way):
    return sum(way[one] != way[other] for one, other in tree.ties)


def best_ways(tree, table, matter):
    """The fewest changes of all ways, and all ways that have so few, ascending."""
    ways = sorted(loose_columns(tree, table, matter))
    least = min(changes_of(tree, way) for way in ways)
    return least, [way for way in ways if changes_of(tree, way) == least]


def unlike_place(tree, table, matter):
    """The least place at which two valleys are read unlike; None if there is none."""
    for place in range(len(tree.ties) + 1):
        cells = {row[matter] for row, seat in zip(table.rows, tree.seats) if seat == place}
        if len(cells - {None}) > 1:
            return place
    return None


def random_pairs(seed, times, most_places=9, most_kind=4):
    """Any trees with tables of as many valleys, whether they fit or not."""
    dice = random.Random(seed)
    for _ in range(times):
        tree = random_tree(dice, most_places)
        if dice.random() < 0.5:
            table = random_table(dice, dice.randint(1, 3), len(tree.seats), dice.choice((0, 0.3, 0.6)))
        else:
            table = crowded_table(dice, len(tree.seats), dice.randint(1, 3), most_kind, dice.choice((0, 0.3)))
        if dice.random() < 0.3:
            table = random_history(dice, tree, 3, most_kind)[0]
        yield dice, tree, table


class Ways(Case):
    def test_examples(self):
        tree = tree_t()
        self.same(fewest(tree, CROSSED, 0), 2)
        self.same(first_way(tree, CROSSED, 0), (0, 1, 1, 0, 0))
        self.same(ways_many(tree, CROSSED, 0), 1)
        self.same(customs_at(tree, CROSSED, 3, 0), (0,))
        self.same(extra(tree, CROSSED), 1)
        unread = Table((2,), ((None,), (1,), (1,), (0,)))
        self.same(fewest(tree, unread, 0), 1)
        self.same(first_way(tree, unread, 0), (1, 1, 1, 1, 0))
        self.same(ways_many(tree, unread, 0), 1)
        self.same(extra(tree, unread), 0)

    def test_against_all_ways(self):
        found = {}
        for dice, tree, table in random_pairs(2501, 220, 8):
            for matter in range(len(table.kinds)):
                if len(used(table, matter)) ** len(tree.ties) > 20000:
                    continue
                place = unlike_place(tree, table, matter)
                if place is not None:
                    for function in OF_A_MATTER:
                        self.refused(Unlike, function, tree, table, matter, told={"place": place})
                    self.refused(Unlike, customs_at, tree, table, 0, matter, told={"place": place})
                    continue
                least, ways = best_ways(tree, table, matter)
                self.same(fewest(tree, table, matter), least)
                self.same(ways_many(tree, table, matter), len(ways))
                self.same(first_way(tree, table, matter), ways[0])
                for at in range(len(tree.ties) + 1):
                    self.same(customs_at(tree, table, at, matter), tuple(sorted({way[at] for way in ways})))
                key = (least > len(used(table, matter)) - 1, len(ways) > 1)
                found[key] = found.get(key, 0) + 1
        self.assertTrue(len(found) == 4 and min(found.values()) > 3, found)

    def test_twelve_valleys_and_many_places(self):
        dice = random.Random(2502)
        some = 0
        while some < 25:
            tree = random_tree(dice, 22)
            table = crowded_table(dice, len(tree.seats), 2, 6, 0.2)
            for matter in range(2):
                if unlike_place(tree, table, matter) is None and len(tree.seats) > 8:
                    way = first_way(tree, table, matter)
                    self.assertEqual(changes_of(tree, way), fewest(tree, table, matter))
                    self.assertTrue(all(row[matter] in (None, way[seat]) for row, seat in zip(table.rows, tree.seats)))
                    customs = [customs_at(tree, table, place, matter) for place in range(len(way))]
                    self.assertTrue(all(custom in told for custom, told in zip(way, customs)))
                    self.assertEqual(way[0], customs[0][0])
                    self.assertTrue(ways_many(tree, table, matter) >= max(map(len, customs)))
                    self.assertIs(ways_many(tree, table, matter) == 1, max(map(len, customs)) == 1)
                    some += 1

    def test_one_valley_and_one_used_custom(self):
        one = Tree((), (0,))
        table = Table((6,), ((4,),))
        self.same((fewest(one, table, 0), ways_many(one, table, 0), first_way(one, table, 0)), (0, 1, (4,)))
        self.same(customs_at(one, table, 0, 0), (4,))
        self.same(extra(one, table), 0)
        lone = Table((6, 2), ((None, 0), (5, 1), (None, 1), (5, 0)))
        self.same((fewest(tree_t(), lone, 0), ways_many(tree_t(), lone, 0)), (0, 1))
        self.same(first_way(tree_t(), lone, 0), (5,) * 5)
        self.same(customs_at(tree_t(), lone, 3, 0), (5,))
        self.same(extra(tree_t(), lone), 1)

    def test_used_customs_that_are_not_the_lowest(self):
        table = Table((6,), ((2,), (5,), (5,), (2,)))
        self.same(first_way(tree_t(), table, 0), (2, 5, 5, 2, 2))
        self.same(customs_at(tree_t(), table, 3, 0), (2,))
        many = Table((6, 6), ((1, 5), (3, None), (4, 5), (None, 3)))
        for matter in range(2):
            least, ways = best_ways(tree_t(), many, matter)
            self.same(first_way(tree_t(), many, matter), ways[0])
            self.same(ways_many(tree_t(), many, matter), len(ways))

    def test_numbers_of_places(self):
        for dice, tree, table in random_pairs(2503, 60, 9):
            numbers = dice.sample(range(len(tree.ties) + 1), len(tree.ties) + 1)
            turned = renumbered(tree, numbers)
            for matter in range(len(table.kinds)):
                if unlike_place(tree, table, matter) is None:
                    self.same(fewest(turned, table, matter), fewest(tree, table, matter))
                    self.same(ways_many(turned, table, matter), ways_many(tree, table, matter))
                    for place, number in enumerate(numbers):
                        told = customs_at(tree, table, place, matter)
                        self.same(customs_at(turned, table, number, matter), told)


class Extra(Case):
    def test_the_sum_and_0_exactly_if_the_tree_fits(self):
        found = {True: 0, False: 0}
        for dice, tree, table in random_pairs(2504, 250):
            matters = range(len(table.kinds))
            places = [unlike_place(tree, table, matter) for matter in matters]
            first = [place for place in places if place is not None]
            if first:
                self.refused(Unlike, extra, tree, table, told={"place": first[0]})
                self.assertIs(fits(tree, table), False)
                continue
            each = [fewest(tree, table, matter) - len(used(table, matter)) + 1 for matter in matters]
            self.assertTrue(min(each) >= 0)
            self.same(extra(tree, table), sum(each))
            self.assertIs(extra(tree, table) == 0, fits(tree, table))
            found[fits(tree, table)] += 1
        self.assertTrue(min(found.values()) > 20, found)

    def test_where_the_tree_fits(self):
        dice = random.Random(2505)
        some = 0
        for _ in range(60):
            tree = random_tree(dice, 12)
            table = random_history(dice, tree)[0]
            many = 1
            for matter in range(len(table.kinds)):
                many *= ways_many(tree, table, matter)
                for place in range(len(tree.ties) + 1):
                    self.same(customs_at(tree, table, place, matter), choices(tree, table, place, matter))
                    some += len(choices(tree, table, place, matter)) > 1
            self.same(fillings_many(tree, table), many)
        self.assertTrue(some > 20, some)

    def test_a_finer_tree_never_needs_more(self):
        less = 0
        for dice, tree, table in random_pairs(2506, 80, 9):
            matter = dice.randrange(len(table.kinds))
            if unlike_place(tree, table, matter) is None:
                many = len(tree.seats)
                for lot in [lot for other in normal_trees(min(many, 4)) for lot in partings(other)][::5]:
                    try:
                        more = added(tree, lot)
                    except ValueError:
                        continue
                    self.assertIs(finer(more, tree), True)
                    self.assertTrue(fewest(more, table, matter) <= fewest(tree, table, matter))
                    less += fewest(more, table, matter) < fewest(tree, table, matter)
        self.assertTrue(less > 0, less)

    def test_a_seat_read_otherwise_changes_fewest_by_at_most_1(self):
        found = set()
        for dice, tree, table in random_pairs(2507, 150, 12):
            matter = dice.randrange(len(table.kinds))
            if unlike_place(tree, table, matter) is not None:
                continue
            for valley, seat in enumerate(tree.seats):
                if tree.seats.count(seat) == 1 and sum(seat in tie for tie in tree.ties) == 1:
                    for custom in used(table, matter):
                        rows = [list(row) for row in table.rows]
                        rows[valley][matter] = custom
                        other = Table(table.kinds, tuple(map(tuple, rows)))
                        if used(other, matter) == used(table, matter) and table.rows[valley][matter] is not None:
                            found.add(fewest(tree, other, matter) - fewest(tree, table, matter))
        self.assertEqual(found, {-1, 0, 1})


class Errors(Case):
    def test_the_sequence(self):
        tree = tree_t()
        for function in OF_A_MATTER:
            for value in any_values():
                if not isinstance(value, Tree):
                    self.refused(BadTree, function, value, None, None)
                if not isinstance(value, Table):
                    self.refused(BadTable, function, tree, value, None)
            self.refused(OtherMany, function, Tree((), (0,)), CROSSED, None)
            for value in wrong_values([0]):
                self.refused(BadMatter, function, tree, CROSSED, value)
            self.refused(BadMatter, function, Tree((), (0,) * 4), CROSSED, 1)
            self.refused(Unlike, function, Tree((), (0,) * 4), CROSSED, 0, told={"place": 0})
        self.refused(BadTree, customs_at, None, None, None, None)
        self.refused(BadTable, customs_at, tree, None, None, None)
        self.refused(OtherMany, customs_at, Tree((), (0,)), CROSSED, None, None)
        for value in wrong_values(range(5)):
            self.refused(BadPlace, customs_at, tree, CROSSED, value, None)
        for value in wrong_values([0]):
            self.refused(BadMatter, customs_at, tree, CROSSED, 4, value)
        self.refused(BadPlace, customs_at, Tree((), (0,) * 4), CROSSED, 1, 1)
        self.refused(BadMatter, customs_at, Tree((), (0,) * 4), CROSSED, 0, 1)
        self.refused(Unlike, customs_at, Tree((), (0,) * 4), CROSSED, 0, 0, told={"place": 0})
        for value in any_values():
            if not isinstance(value, Tree):
                self.refused(BadTree, extra, value, None)
            if not isinstance(value, Table):
                self.refused(BadTable, extra, tree, value)
        self.refused(OtherMany, extra, Tree((), (0,)), CROSSED)

    def test_unlike_tells_the_least_place_of_the_first_matter(self):
        tree = Tree(((0, 1), (1, 2)), (2, 2, 1, 1, 0, 0))
        table = Table((2, 3, 2), ((0, 0, 0), (0, 1, 1), (1, 0, 1), (1, 2, 1), (0, None, 0), (0, 1, 1)))
        self.same(fewest(tree, table, 0), 2)
        self.refused(Unlike, fewest, tree, table, 1, told={"place": 1})
        self.refused(Unlike, fewest, tree, table, 2, told={"place": 0})
        self.refused(Unlike, extra, tree, table, told={"place": 1})
        self.refused(Unlike, customs_at, tree, table, 0, 2, told={"place": 0})

    def test_nothing_is_changed(self):
        tree, table = tree_t(), Table((2,), ((0,), (1,), (1,), (0,)))
        first_way(tree, table, 0)
        extra(tree, table)
        self.same(tree, tree_t())
        self.same(table, CROSSED)
        self.same(customs_at(tree=tree, table=table, place=3, matter=0), (0,))


if __name__ == "__main__":
    unittest.main()

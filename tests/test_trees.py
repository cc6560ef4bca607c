"""Point 20: trees, told by their partings."""

import itertools
import unittest

from oncefound.errors import BadMany, BadParting, BadPartings, BadPlace, BadSeats, BadTie, BadTies, BadTree
from oncefound.errors import Crosses, OtherMany
from oncefound.trees import Tree, added, alike, are_partings, common, finer, joined, middle, normal, parting
from oncefound.trees import partings, path, tree_of
from oracles import cross, families, far_side, grown_twelve, lots_of, parted, reached, renumbered
from samples import Case, any_values, random_trees, table_a, tree_t, wrong_values

LOTS_T = ((1,), (2,), (2, 3), (3,))


def ties_are_right(thing):
    """Whether thing, a tuple of pairs, is as the words ask for."""
    places = range(len(thing) + 1)
    if not all(type(end) is int and end in places for tie in thing for end in tie):
        return False
    rising = all(one < other for one, other in thing) and list(thing) == sorted(set(thing))
    return rising and reached(thing, 0) == set(places)


def seats_are_right(ties, thing):
    """Whether thing, a tuple, is as the words ask for, with these ties."""
    places = range(len(ties) + 1)
    if not 1 <= len(thing) <= 12 or not all(type(seat) is int and seat in places for seat in thing):
        return False
    return all(place in thing or sum(place in tie for tie in ties) >= 3 for place in places)


def small_trees(many):
    """All trees of many valleys with at most four places, however the places are numbered."""
    for count in range(4):
        pairs = list(itertools.combinations(range(count + 1), 2))
        for ties in itertools.combinations(pairs, count):
            if ties_are_right(ties):
                for seats in itertools.product(range(count + 1), repeat=many):
                    if seats_are_right(ties, seats):
                        yield Tree(ties, seats)


class Making(Case):
    def test_attributes(self):
        tree = Tree(((0, 1), (0, 3), (2, 3), (3, 4)), (0, 1, 2, 4))
        self.same(tree.ties, ((0, 1), (0, 3), (2, 3), (3, 4)))
        self.same(tree.seats, (0, 1, 2, 4))
        named = Tree(seats=(0, 1, 1), ties=((0, 1),))
        self.same((named.ties, named.seats), (((0, 1),), (0, 1, 1)))

    def test_one_to_twelve_valleys(self):
        for many in range(1, 13):
            self.same(Tree((), (0,) * many).seats, (0,) * many)
            ties = tuple((place, place + 1) for place in range(many - 1))
            self.same(Tree(ties, tuple(range(many))).ties, ties)
        self.refused(BadSeats, Tree, (), ())
        self.refused(BadSeats, Tree, (), (0,) * 13)
        self.refused(BadSeats, Tree, ((0, 1),), (0, 1) * 6 + (0,))

    def test_21_and_22_ties(self):
        tree = grown_twelve()
        self.assertEqual(len(tree.ties), 21)
        self.same(Tree(tree.ties, tree.seats), tree)
        line = tuple((place, place + 1) for place in range(22))
        star = tuple((0, place) for place in range(1, 23))
        for ties in (line, star, tree.ties + ((21, 22),)):
            self.refused(BadTies, Tree, ties, tuple(range(12)))
            self.refused(BadTies, Tree, ties, tuple(range(11, 23)))
            self.refused(BadTies, Tree, ties, None)
        self.refused(BadSeats, Tree, line[:21], tuple(range(12)))
        self.refused(BadSeats, Tree, star[:21], tuple(range(12)))

    def test_lost_places_are_in_three_ties(self):
        star = ((0, 1), (0, 2), (0, 3))
        self.same(Tree(star, (1, 2, 3)).seats, (1, 2, 3))
        self.same(Tree(star, (3, 2, 1, 1)).seats, (3, 2, 1, 1))
        for seats in ((0, 1, 2), (1, 2), (0,), (0, 0, 0), (1, 1, 2, 2)):
            self.refused(BadSeats, Tree, star, seats)
        self.refused(BadSeats, Tree, ((0, 1), (1, 2)), (0, 2))
        self.refused(BadSeats, Tree, ((0, 1),), (1,))

    def test_wrong_ties(self):
        for ties in wrong_values([(), ((0, 1),)]):
            self.refused(BadTies, Tree, ties, (0, 1))
            self.refused(BadTies, Tree, ties, None)
        wrong = [
            ((1, 0),), ((0, 0),), ((0, 2),), ((0, 1), (0, 1)), ((0, 2), (0, 1)), ((0, 1), (2, 3)), ((0, 1), (1, 3)),
            ((0, 1), (0, 2), (1, 2)), ((0, 1), (2, 3), (2, 3)), ((0, 1), (0, 2), (0, 2)), ((0, 1), (1, 2), (2, 1)),
            ((0, 1), [1, 2]), ((0, 1), (1, 2, 2)), ((0, 1), (1,)), ((0, 1), ()), ((0, 1), None), ((0, 1), "12"),
            ((0, 1), (True, 2)), ((False, 1),), ((0, True),), ((0, None),), (("0", "1"),), ((-1, 0),), ((0, (1,)),),
            [(0, 1), (1, 2)], {(0, 1): 0}, ((0, 1), {1: 2}), ((0, 1), (0, 3), (1, 3), (2, 4)),
        ]
        for ties in wrong:
            self.refused(BadTies, Tree, ties, (0, 1, 2))

    def test_wrong_seats(self):
        for seats in wrong_values([(0, 1), (1, 0)]):
            self.refused(BadSeats, Tree, ((0, 1),), seats)
        for seats in ((0, 1, 2), (0, 1, -1), (0, 1, True), (False, 1), (0, 1, None), (0, 1, "1"), [0, 1], {0: 0, 1: 1}):
            self.refused(BadSeats, Tree, ((0, 1),), seats)

    def test_just_what_is_described_is_taken(self):
        ends = (0, 1, 2, 3, True)
        pairs = list(itertools.product(ends, repeat=2))
        lots = [(), *itertools.product(pairs, repeat=1), *itertools.product(pairs, repeat=2)]
        lots += list(itertools.combinations(itertools.combinations(range(4), 2), 3))
        for ties in lots:
            if not ties_are_right(ties):
                self.refused(BadTies, Tree, ties, (0,))
                continue
            for seats in itertools.product((0, 1, 2, 3), repeat=3):
                if seats_are_right(ties, seats):
                    self.same(Tree(ties, seats).seats, seats)
                else:
                    self.refused(BadSeats, Tree, ties, seats)


class Equality(Case):
    def test_by_both_attributes(self):
        self.assertTrue(tree_t() == tree_t())
        self.assertFalse(tree_t() != tree_t())
        line = ((0, 1), (1, 2))
        for one, other in (
            (Tree(line, (0, 1, 2)), Tree(line, (0, 2, 1))), (Tree(line, (0, 1, 2)), Tree(((0, 1), (0, 2)), (0, 1, 2))),
            (Tree(line, (0, 1, 2)), Tree(line, (0, 1, 2, 2))), (Tree((), (0,)), Tree((), (0, 0))),
            # These two are alike.
            (Tree(((0, 1),), (0, 1)), Tree(((0, 1),), (1, 0))),
        ):
            self.assertIs(one == other, False)
            self.assertIs(one != other, True)

    def test_to_no_value_of_another_kind(self):
        tree = tree_t()
        for value in any_values() + [(tree.ties, tree.seats), [tree.ties, tree.seats], tree.ties, tree.seats]:
            if not isinstance(value, Tree):
                self.assertIs(tree == value, False)
                self.assertIs(value == tree, False)
                self.assertIs(tree != value, True)


class Paths(Case):
    def test_example(self):
        self.same(path(tree_t(), 1, 4), (1, 0, 3, 4))
        self.same(path(tree_t(), 4, 1), (4, 3, 0, 1))
        self.same(path(tree_t(), 3, 3), (3,))
        self.same(middle(tree_t(), 1, 2, 4), 3)
        self.same(path(Tree((), (0,)), 0, 0), (0,))
        self.same(middle(Tree((), (0,)), 0, 0, 0), 0)

    def test_middle_of_places_that_are_not_different(self):
        for one, other in itertools.product(range(5), repeat=2):
            for places in ((one, one, other), (one, other, one), (other, one, one)):
                self.same(middle(tree_t(), *places), one)

    def test_middle_in_any_sequence(self):
        for places in itertools.permutations((1, 2, 4)):
            self.same(middle(tree_t(), *places), 3)
        for places in itertools.permutations((1, 0, 4)):
            self.same(middle(tree_t(), *places), 0)

    def test_wrong_places(self):
        for place in wrong_values([0, 1, 2, 3, 4]):
            self.refused(BadPlace, path, tree_t(), place, 0)
            self.refused(BadPlace, path, tree_t(), 0, place)
            self.refused(BadPlace, middle, tree_t(), place, 0, 0)
            self.refused(BadPlace, middle, tree_t(), 0, place, 0)
            self.refused(BadPlace, middle, tree_t(), 0, 0, place)
        self.refused(BadPlace, path, Tree((), (0, 0)), 0, 1)
        self.refused(BadTree, path, table_a(), 9, 9)
        self.refused(BadTree, middle, None, 9, 9, 9)

    def test_against_what_the_words_say(self):
        for dice, tree in random_trees(201):
            places = range(len(tree.ties) + 1)
            for one, other in itertools.product(places, repeat=2):
                way = path(tree, one, other)
                self.same((way[0], way[-1], type(way)), (one, other, tuple))
                self.assertEqual(len(set(way)), len(way))
                for pair in zip(way, way[1:]):
                    self.assertIn(tuple(sorted(pair)), tree.ties)
            for _ in range(20):
                one, other, third = (dice.choice(places) for _ in range(3))
                shared = set(path(tree, one, other)) & set(path(tree, one, third)) & set(path(tree, other, third))
                self.same([middle(tree, one, other, third)], sorted(shared))


class PartingsOfTies(Case):
    def test_example(self):
        self.same(parting(tree_t(), (0, 3)), (2, 3))
        self.same(partings(tree_t()), LOTS_T)
        self.same([parting(tree_t(), tie) for tie in tree_t().ties], [(1,), (2, 3), (2,), (3,)])

    def test_valley_0_at_any_place(self):
        line = ((0, 1), (1, 2))
        self.same(partings(Tree(line, (0, 1, 2))), ((1, 2), (2,)))
        self.same(partings(Tree(line, (1, 0, 2))), ((1,), (2,)))
        self.same(partings(Tree(line, (2, 1, 0))), ((1, 2), (2,)))
        self.same(parting(Tree(line, (2, 1, 0)), (0, 1)), (2,))

    def test_several_valleys_at_one_place(self):
        tree = Tree(((0, 1), (1, 2)), (1, 0, 1, 0, 2, 2, 2))
        self.same(partings(tree), ((1, 3), (4, 5, 6)))
        self.same(partings(Tree((), (0,) * 12)), ())
        self.same(partings(Tree(((0, 1),), (0,) * 11 + (1,))), ((11,),))
        self.same(partings(Tree(((0, 1),), (1,) + (0,) * 11)), (tuple(range(1, 12)),))

    def test_wrong_ties(self):
        for tie in wrong_values([(0, 1), (2, 3)]):
            for function in (parting, joined):
                self.refused(BadTie, function, tree_t(), tie)
        for tie in ((1, 0), (3, 0), (1, 2), (0, 2), (4, 5), (0, 3, 3), [0, 3], (0, True), (False, 1), ((0, 1),), ()):
            for function in (parting, joined):
                self.refused(BadTie, function, tree_t(), tie)
                self.refused(BadTie, function, Tree((), (0,)), tie)
        for function in (parting, joined):
            self.refused(BadTree, function, None, None)
            self.refused(BadTree, function, table_a(), (0, 1))

    def test_against_what_the_words_say(self):
        for dice, tree in random_trees(202):
            lots = [parted(tree, tie) for tie in tree.ties]
            self.same([parting(tree, tie) for tie in tree.ties], lots)
            self.same(partings(tree), tuple(sorted(lots)))
            # Facts: none is (), all are different, no two of them cross.
            self.assertNotIn((), lots)
            self.assertEqual(len(set(lots)), len(lots))
            self.assertFalse(any(cross(one, other) for one, other in itertools.combinations(lots, 2)))
            self.assertIs(are_partings(len(tree.seats), partings(tree)), True)

    def test_no_tree(self):
        for value in any_values():
            if not isinstance(value, Tree):
                self.refused(BadTree, partings, value)
                self.refused(BadTree, normal, value)


class Alike(Case):
    def test_numbered_otherwise(self):
        self.assertIs(alike(tree_t(), tree_t()), True)
        self.assertIs(alike(Tree(((0, 1),), (0, 1)), Tree(((0, 1),), (1, 0))), True)
        self.assertIs(alike(Tree(((0, 1), (1, 2)), (0, 1, 2)), Tree(((0, 1), (1, 2)), (0, 2, 1))), False)
        self.assertIs(alike(Tree((), (0, 0)), Tree(((0, 1),), (0, 1))), False)

    def test_exactly_if_numbered_otherwise(self):
        for many, kinds in ((1, 1), (2, 2), (3, 8)):
            trees = list(small_trees(many))
            self.assertEqual(len({partings(tree) for tree in trees}), kinds)
            for one, other in itertools.product(trees, repeat=2):
                wanted = len(one.ties) == len(other.ties) and any(
                    renumbered(one, numbers) == other
                    for numbers in itertools.permutations(range(len(one.ties) + 1))
                )
                self.assertIs(alike(one, other), wanted)

    def test_any_renumbering(self):
        for dice, tree in random_trees(203):
            other = renumbered(tree, dice.sample(range(len(tree.ties) + 1), len(tree.ties) + 1))
            self.assertIs(alike(tree, other), True)
            self.same(normal(tree), normal(other))
            seats = tuple(dice.sample(tree.seats, len(tree.seats)))
            turned = Tree(tree.ties, seats)
            same_lots = {parted(tree, tie) for tie in tree.ties} == {parted(turned, tie) for tie in tree.ties}
            self.assertIs(alike(tree, turned), same_lots)

    def test_two_trees(self):
        for function in (alike, finer, common):
            for value in wrong_values([]):
                if not isinstance(value, Tree):
                    self.refused(BadTree, function, value, tree_t())
                    self.refused(BadTree, function, tree_t(), value)
                    self.refused(BadTree, function, value, value)
            self.refused(OtherMany, function, tree_t(), Tree((), (0, 0, 0)))
            self.refused(OtherMany, function, Tree((), (0,) * 5), tree_t())
            self.refused(BadTree, function, Tree((), (0,)), None)


class ArePartings(Case):
    def test_ordinary(self):
        for thing in ((), LOTS_T, ((1, 2, 3),), ((1,), (1, 2), (1, 2, 3)), ((1,), (2,), (3,)), ((1, 2), (3,))):
            self.assertIs(are_partings(4, thing), True)
        for thing in (
            ((1, 2), (2, 3)), ((1, 2), (1, 3)), ((1,), (2, 3), (1, 2)), ((2,), (1,)), ((1,), (1,)), ((2, 1),),
            ((1, 1),), ((),), ((0,),), ((0, 1),), ((4,),), ((1, 4),), [(1,)], ([1],), ((True,),), ((1,), (True, 2)),
            ((1, None),), ((1, "2"),), (1,), ((1,), None), {(1,): 1}, ((1,), {2: 2}), ((1,), "2"), (((1,),),),
        ):
            self.assertIs(are_partings(4, thing), False)

    def test_any_value(self):
        right = [(), ((1,),), ((1, 2), (0, 1))]
        for value in wrong_values(right):
            self.assertIs(are_partings(12, value), False)
        self.assertIs(are_partings(12, ((1,),)), True)
        self.assertIs(are_partings(12, ((1, 2), (0, 1))), False)

    def test_one_and_twelve_valleys(self):
        self.assertIs(are_partings(1, ()), True)
        self.assertIs(are_partings(1, ((1,),)), False)
        self.assertIs(are_partings(1, ((0,),)), False)
        self.assertIs(are_partings(2, ((1,),)), True)
        self.assertIs(are_partings(12, ((11,),)), True)
        self.assertIs(are_partings(12, ((12,),)), False)
        self.assertIs(are_partings(11, ((11,),)), False)
        self.assertIs(are_partings(12, partings(grown_twelve())), True)

    def test_just_those_that_do_not_cross(self):
        for many, count in ((1, 1), (2, 2), (3, 8), (4, 64), (5, 832)):
            right = set(families(many))
            self.assertEqual(len(right), count)
            self.assertTrue(all(are_partings(many, family) is True for family in right))
        lots, right = lots_of(4), set(families(4))
        for size in range(len(lots) + 1):
            for thing in itertools.combinations(lots, size):
                self.assertIs(are_partings(4, thing), thing in right)
        for thing in itertools.product(lots, repeat=2):
            self.assertIs(are_partings(4, thing), thing in right)

    def test_wrong_many(self):
        for many in wrong_values(list(range(1, 13))):
            self.refused(BadMany, are_partings, many, ())
            self.refused(BadMany, are_partings, many, None)
            self.refused(BadMany, tree_of, many, ())
            self.refused(BadMany, tree_of, many, None)


class Normal(Case):
    def is_normal(self, tree, many, lots):
        """Whether tree is the normal tree of so many valleys with these partings, as the words say it."""
        self.assertEqual(len(tree.seats), many)
        self.same(tree.seats[0], 0)
        self.assertEqual(len(tree.ties), len(lots))
        for tie in tree.ties:
            number = lots.index(parted(tree, tie)) + 1
            self.assertEqual([end for end in tie if end in far_side(tree, tie, 0)], [number])

    def test_example(self):
        self.same(tree_of(4, LOTS_T), tree_t())
        self.same(normal(tree_t()), tree_t())
        tree = Tree(((0, 1), (0, 2), (0, 4), (3, 4)), (3, 4, 1, 2))
        self.same(normal(tree), tree_of(4, ((1, 2, 3), (2,), (2, 3), (3,))))

    def test_edges(self):
        self.same(tree_of(1, ()), Tree((), (0,)))
        self.same(tree_of(12, ()), Tree((), (0,) * 12))
        self.same(tree_of(2, ((1,),)), Tree(((0, 1),), (0, 1)))
        self.same(tree_of(12, (tuple(range(1, 12)),)), Tree(((0, 1),), (0,) + (1,) * 11))
        self.is_normal(grown_twelve(), 12, list(partings(grown_twelve())))
        self.same(normal(Tree(((0, 1),), (1, 0, 0))), Tree(((0, 1),), (0, 1, 1)))

    def test_all_partings_of_few_valleys(self):
        for many in range(1, 6):
            trees = []
            for lots in families(many):
                tree = tree_of(many, tuple(sorted(lots)))
                self.is_normal(tree, many, sorted(lots))
                self.same(partings(tree), tuple(sorted(lots)))
                self.same(normal(tree), tree)
                trees.append((tree.ties, tree.seats))
            self.assertEqual(len(set(trees)), (1, 2, 8, 64, 832)[many - 1])

    def test_any_tree(self):
        for dice, tree in random_trees(204):
            result = normal(tree)
            self.is_normal(result, len(tree.seats), sorted(parted(tree, tie) for tie in tree.ties))
            self.assertIs(alike(result, tree), True)
            self.same(tree_of(len(tree.seats), partings(tree)), result)

    def test_wrong_lots(self):
        for lots in wrong_values([(), ((1,),)]):
            self.refused(BadPartings, tree_of, 4, lots)
        for lots in (((1, 2), (2, 3)), ((2,), (1,)), ((4,),), [(1,)], ([1],), ((0, 1),), ((1,), (1,)), ((True,),)):
            self.refused(BadPartings, tree_of, 4, lots)
        self.refused(BadPartings, tree_of, 1, ((1,),))
        self.refused(BadPartings, tree_of, 1, ((0,),))


class JoinedAndAdded(Case):
    def test_example(self):
        self.same(joined(tree_t(), (0, 3)), Tree(((0, 1), (0, 2), (0, 3)), (0, 1, 2, 3)))
        self.refused(Crosses, added, tree_t(), (1, 2), told={"parting": (2, 3)})
        wanted = Tree(((0, 2), (1, 2), (2, 4), (3, 4), (4, 5)), (0, 1, 3, 5))
        self.same(added(tree_t(), (1, 2, 3)), wanted)

    def test_the_first_that_it_crosses(self):
        tree = tree_of(7, ((1, 2), (3, 4), (3, 4, 5), (5,)))
        self.refused(Crosses, added, tree, (2, 3), told={"parting": (1, 2)})
        self.refused(Crosses, added, tree, (3, 6), told={"parting": (3, 4)})
        self.refused(Crosses, added, tree, (4, 5), told={"parting": (3, 4)})
        self.refused(Crosses, added, tree, (5, 6), told={"parting": (3, 4, 5)})
        self.same(partings(added(tree, (6,))), ((1, 2), (3, 4), (3, 4, 5), (5,), (6,)))
        self.same(partings(added(tree, (1, 2, 6))), ((1, 2), (1, 2, 6), (3, 4), (3, 4, 5), (5,)))

    def test_trees_that_are_not_normal(self):
        tree = Tree(((0, 1), (0, 2)), (2, 0, 1))
        self.same(partings(tree), ((1, 2), (2,)))
        self.same(joined(tree, (0, 1)), Tree(((0, 1),), (0, 1, 1)))
        self.same(joined(tree, (0, 2)), Tree(((0, 1),), (0, 0, 1)))
        self.same(added(tree, (1,)), Tree(((0, 2), (1, 2), (2, 3)), (0, 1, 3)))

    def test_wrong_lots(self):
        for lot in wrong_values([(1,), (1, 2), (2, 3)]):
            self.refused(BadParting, added, tree_t(), lot)
        wrong = [(), (0,), (0, 1), (0, 1, 2, 3), (4,), (1, 4), (2, 1), (1, 1), [1, 2], (True, 2), (1, None), (1, "2")]
        for lot in wrong + [((1,),), {1: 2}, "12", *LOTS_T]:
            self.refused(BadParting, added, tree_t(), lot)
        self.refused(BadParting, added, Tree((), (0,)), (1,))
        self.refused(BadParting, added, Tree((), (0,)), (0,))
        self.refused(BadTree, added, None, None)
        self.refused(BadTree, added, table_a(), (1,))

    def test_nothing_can_be_added_to_21_ties(self):
        tree = grown_twelve()
        lots = set(partings(tree))
        for lot in lots_of(12):
            crossed = [other for other in sorted(lots) if cross(lot, other)]
            if lot in lots:
                self.refused(BadParting, added, tree, lot)
            else:
                self.refused(Crosses, added, tree, lot, told={"parting": crossed[0]})

    def test_joining_and_adding_again(self):
        for dice, tree in random_trees(205):
            many = len(tree.seats)
            for tie in tree.ties:
                less = joined(tree, tie)
                rest = [parted(tree, other) for other in tree.ties if other != tie]
                self.same(less, tree_of(many, tuple(sorted(rest))))
                self.same(added(less, parting(tree, tie)), normal(tree))

    def test_adding_and_joining_again(self):
        for dice, tree in random_trees(206):
            many = len(tree.seats)
            for _ in range(20 if many > 1 else 0):
                lot = tuple(sorted(dice.sample(range(1, many), dice.randint(1, many - 1))))
                crossed = [other for other in partings(tree) if cross(lot, other)]
                if lot in partings(tree):
                    self.refused(BadParting, added, tree, lot)
                elif crossed:
                    self.refused(Crosses, added, tree, lot, told={"parting": crossed[0]})
                else:
                    more = added(tree, lot)
                    self.same(more, tree_of(many, tuple(sorted(partings(tree) + (lot,)))))
                    back = [tie for tie in more.ties if parted(more, tie) == lot]
                    self.same(joined(more, back[0]), normal(tree))


class Finer(Case):
    def test_ordinary(self):
        bare = Tree((), (0,) * 4)
        self.assertIs(finer(tree_t(), tree_t()), True)
        self.assertIs(finer(tree_t(), bare), True)
        self.assertIs(finer(bare, tree_t()), False)
        self.assertIs(finer(tree_t(), tree_of(4, ((2, 3), (3,)))), True)
        self.assertIs(finer(tree_t(), tree_of(4, ((1, 2), (3,)))), False)
        self.assertIs(finer(bare, bare), True)
        self.same(common(tree_t(), tree_of(4, ((1, 2), (3,)))), tree_of(4, ((3,),)))
        self.same(common(tree_t(), bare), bare)
        self.same(common(tree_t(), tree_t()), tree_t())

    def test_of_three_valleys(self):
        trees = list(small_trees(3))
        for one, other in itertools.product(trees, repeat=2):
            has, has_too = ({parted(tree, tie) for tie in tree.ties} for tree in (one, other))
            self.assertIs(finer(one, other), has_too <= has)
            self.same(common(one, other), tree_of(3, tuple(sorted(has & has_too))))

    def test_both_are_finer_than_a_third_exactly_if_common_is(self):
        trees = [tree_of(4, tuple(sorted(lots))) for lots in families(4)]
        for one, other in itertools.product(trees[::3], trees):
            shared = common(one, other)
            for third in trees[::5]:
                both = finer(one, third) and finer(other, third)
                self.assertIs(finer(shared, third), both)

    def test_trees_that_are_not_normal(self):
        for dice, tree in random_trees(207):
            many = len(tree.seats)
            lots = [lot for lot in partings(tree) if dice.random() < 0.6]
            other = tree_of(many, tuple(lots))
            other = renumbered(other, dice.sample(range(len(lots) + 1), len(lots) + 1))
            self.assertIs(finer(tree, other), True)
            self.assertIs(finer(other, tree), len(lots) == len(tree.ties))
            self.same(common(tree, other), normal(other))
            self.same(common(other, tree), normal(other))


if __name__ == "__main__":
    unittest.main()

"""Point 41: arrows, their clashes, their trees and the fillings that follow them."""

import itertools
import random
import unittest

from oncefound.arrows import arrow_clash, arrow_filling, arrow_tree, arrows_of
from oncefound.errors import BadArrows, BadFilling, BadTable, BadTree, Clash, OtherMany, Unread
from oncefound.fillings import filling, fillings_many, is_filling
from oncefound.pieces import fits
from oncefound.tables import Table, used
from oncefound.trees import Tree, finer, normal, partings, tree_of
from oracles import arrows_of_table, clashing_pairs, normal_trees, partings_of_pairs, renumbered
from samples import Case, any_values, random_history, random_tree, spoiled, table_a, tree_t, wrong_values
from test_customtrees import random_fulls, table_c

GOOD = (((0, 1), (1, 2)), ((0, 1),))
CLASHING = (((0, 1), (0, 2)), ((0, 1),))
SEATS = Tree(((0, 1), (1, 3), (2, 3)), (0, 1, 2, 3))
ROWS = ((0, 0), (1, 0), (2, 1), (1, 1))


def few_arrows(seed, times, most, **sizes):
    """Full tables with at most so many arrows, with the list of them."""
    for dice, table in random_fulls(seed, times, 4, **sizes):
        arrows = list(itertools.islice(arrows_of_table(table), most + 1))
        if len(arrows) <= most:
            yield dice, table, arrows


class ArrowClash(Case):
    def test_example(self):
        self.assertIs(arrow_clash(table_c(), GOOD), None)
        self.same(arrow_clash(table_c(), CLASHING), ((0, (0, 1)), (1, (0, 1))))

    def test_the_first_of_several(self):
        table = Table((2, 2, 2), ((0, 0, 0), (0, 1, 1), (1, 0, 1), (1, 1, 0)))
        line = ((0, 1),)
        self.same(arrow_clash(table, (line,) * 3), ((0, (0, 1)), (1, (0, 1))))
        table = Table((1, 6, 2), ((0, 3, 0), (0, 5, 1), (0, 3, 1), (0, 5, 0)))
        self.same(arrow_clash(table, ((), ((3, 5),), line)), ((1, (3, 5)), (2, (0, 1))))

    def test_against_what_the_words_say(self):
        found = set()
        for dice, table, arrows in few_arrows(901, 60, 400):
            for some in dice.sample(arrows, min(len(arrows), 12)):
                wanted = clashing_pairs(table, some)
                self.same(arrow_clash(table, some), wanted[0] if wanted else None)
                found.add(min(len(wanted), 2))
        self.assertEqual(found, {0, 1, 2})

    def test_one_valley_and_twelve_one_matter_and_eight(self):
        self.assertIs(arrow_clash(Table((6,), ((5,),)), ((),)), None)
        table = Table((2,) * 8, ((0,) * 8, (1,) * 8) * 6)
        self.assertIs(arrow_clash(table, (((0, 1),),) * 8), None)
        self.same(arrow_tree(table, (((0, 1),),) * 8), tree_of(12, ((1, 3, 5, 7, 9, 11),)))
        table = Table((6,) * 8, tuple((valley % 6,) * 7 + (valley // 2,) for valley in range(12)))
        star = tuple((0, custom) for custom in range(1, 6))
        self.assertIs(arrow_clash(table, (star,) * 7 + (star,)) is None, False)
        self.same(arrow_clash(table, (star,) * 8)[0], (0, (0, 1)))


class ArrowTree(Case):
    def test_example(self):
        self.same(arrow_tree(table_c(), GOOD), SEATS)
        self.assertIs(arrow_tree(table_c(), CLASHING), None)

    def test_a_tree_without_ties(self):
        table = Table((6, 3), ((4, 2), (4, 2), (4, 2)))
        self.same(arrow_tree(table, ((), ())), Tree((), (0, 0, 0)))
        self.same(arrow_filling(table, ((), ())), ((4, 2),))
        self.same(arrows_of(Tree((), (0, 0, 0)), table, ((4, 2),)), ((), ()))
        self.same(arrows_of(Tree(((0, 1),), (1, 0, 1)), table, ((4, 2), (4, 2))), ((), ()))

    def test_against_what_the_words_say(self):
        for _, table, arrows in few_arrows(902, 50, 200):
            for some in arrows:
                lots = {lot for matter, pairs in enumerate(some) for lot in partings_of_pairs(table, matter, pairs)}
                if clashing_pairs(table, some):
                    self.assertIs(arrow_tree(table, some), None)
                else:
                    tree = arrow_tree(table, some)
                    self.same(tree, tree_of(len(table.rows), tuple(sorted(lots))))
                    self.assertIs(fits(tree, table), True)


class ArrowFilling(Case):
    def test_example(self):
        self.same(arrow_filling(table_c(), GOOD), ROWS)
        self.refused(Clash, arrow_filling, table_c(), CLASHING)

    def test_customs_that_are_not_the_lowest(self):
        table = Table((6, 6), ((5, 2), (1, 2), (3, 4)))
        chosen = (((1, 3), (3, 5)), ((2, 4),))
        self.same(arrow_tree(table, chosen), tree_of(3, ((1,), (1, 2), (2,))))
        self.same(arrow_filling(table, chosen), ((5, 2), (1, 2), (3, 2), (3, 4)))

    def test_it_follows_the_arrows_and_they_come_back(self):
        some = 0
        for _, table, arrows in few_arrows(903, 60, 200):
            for chosen in arrows:
                if arrow_clash(table, chosen) is not None:
                    self.refused(Clash, arrow_filling, table, chosen)
                    continue
                tree, rows = arrow_tree(table, chosen), arrow_filling(table, chosen)
                some += 1
                self.assertIs(is_filling(tree, table, rows), True)
                self.same(arrows_of(tree, table, rows), chosen)
                for one, other in tree.ties:
                    for matter, pairs in enumerate(chosen):
                        ends = tuple(sorted((rows[one][matter], rows[other][matter])))
                        self.assertTrue(ends[0] == ends[1] or ends in pairs)
        self.assertTrue(some > 200, some)


class ArrowsOf(Case):
    def test_example(self):
        self.same(arrows_of(SEATS, table_c(), ROWS), GOOD)

    def test_any_tree_and_each_filling_follows_one_tuple(self):
        dice = random.Random(904)
        for _ in range(60):
            tree = random_tree(dice, 10)
            table = random_history(dice, tree, unread=0)[0]
            rows = filling(tree, table)
            told = arrows_of(tree, table, rows)
            self.assertIs(arrow_clash(table, told), None)
            self.assertIs(finer(tree, arrow_tree(table, told)), True)
            for matter, pairs in enumerate(told):
                ends = {tuple(sorted((rows[one][matter], rows[other][matter]))) for one, other in tree.ties}
                self.same(pairs, tuple(sorted(pair for pair in ends if pair[0] != pair[1])))
                self.assertEqual(len(pairs), len(used(table, matter)) - 1)
            numbers = dice.sample(range(len(rows)), len(rows))
            other = renumbered(tree, numbers)
            turned = tuple(rows[numbers.index(place)] for place in range(len(rows)))
            self.same(arrows_of(other, table, turned), told)
            self.assertIs(finer(normal(other), arrow_tree(table, told)), True)

    def test_not_a_filling(self):
        table = table_c()
        for rows in spoiled(ROWS) + [((0, 0), (1, 0), (2, 1), (0, 1)), ((0, 0), (2, 0), (2, 1), (1, 1))]:
            self.refused(BadFilling, arrows_of, SEATS, table, rows)


class Facts(Case):
    def test_fillings_are_one_to_one_with_arrows_that_lead_to_the_tree(self):
        found = set()
        for many in (1, 2, 3, 4):
            for _, table, arrows in few_arrows(910 + many, 12, 200, valleys=many):
                told = [arrow_tree(table, some) for some in arrows]
                for tree in normal_trees(many):
                    count = sum(least is not None and finer(tree, least) for least in told)
                    self.assertEqual(fillings_many(tree, table), count)
                    self.assertIs(fits(tree, table), count > 0)
                    found.add(min(count, 2))
        self.assertEqual(found, {0, 1, 2})

    def test_arrows_can_be_mixed_matter_by_matter(self):
        mixed = 0
        for dice, table, arrows in few_arrows(920, 40, 60, valleys=4):
            for tree in normal_trees(4):
                led = [some for some in arrows if arrow_clash(table, some) is None
                       and finer(tree, arrow_tree(table, some))]
                for one, other in itertools.combinations(led[:5], 2):
                    for some in itertools.product(*zip(one, other)):
                        self.assertIn(some, led)
                        mixed += 1
        self.assertTrue(mixed > 100, mixed)

    def test_finer_trees_have_one_filling_that_follows(self):
        for _, table, arrows in few_arrows(930, 12, 30, valleys=4, matters=2):
            customs = list(itertools.product(used(table, 0), used(table, 1)))
            for tree in normal_trees(4):
                if len(customs) ** (len(tree.ties) + 1) < 4000:
                    rows = itertools.product(customs, repeat=len(tree.ties) + 1)
                    led = [arrows_of(tree, table, one) for one in rows if is_filling(tree, table, one)]
                    least = {some: arrow_tree(table, some) for some in arrows}
                    wanted = [some for some in arrows if least[some] is not None and finer(tree, least[some])]
                    self.assertEqual(sorted(led), wanted)


class Errors(Case):
    def test_no_table_then_unread_then_the_arrows(self):
        for function in (arrow_clash, arrow_tree, arrow_filling):
            for value in any_values():
                if not isinstance(value, Table):
                    self.refused(BadTable, function, value, None)
            self.refused(Unread, function, table_a(), None)
            self.refused(Unread, function, Table((1, 2), ((0, 0), (0, None))), 9)
            for value in any_values() + spoiled(GOOD):
                self.refused(BadArrows, function, table_c(), value)
            for value in wrong_values([((),)]):
                self.refused(BadArrows, function, Table((6,), ((4,), (4,))), value)
            for value in wrong_values([(((0, 1),),)]):
                self.refused(BadArrows, function, Table((2,), ((0,), (1,))), value)
            self.refused(BadArrows, function, table_c(), (GOOD[1], GOOD[0]))

    def test_the_parameters_of_arrows_of(self):
        for value in any_values():
            if not isinstance(value, Tree):
                self.refused(BadTree, arrows_of, value, value, value)
            if not isinstance(value, Table):
                self.refused(BadTable, arrows_of, SEATS, value, value)
            self.refused(BadFilling, arrows_of, SEATS, table_c(), value)
            self.refused(OtherMany, arrows_of, Tree((), (0,)), table_a(), value)
            self.refused(Unread, arrows_of, tree_t(), table_a(), value)
        self.refused(OtherMany, arrows_of, Tree((), (0,)), table_c(), ROWS)
        self.same(partings(SEATS), ((1, 2, 3), (2,), (2, 3)))


if __name__ == "__main__":
    unittest.main()

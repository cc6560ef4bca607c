"""Point 2: what the functions of all points tell of the same tables and trees belongs together."""

import itertools
import unittest

from oncefound.apart import apart_paths
from oncefound.arrows import arrow_filling, arrow_tree
from oncefound.best import best
from oncefound.book import Book
from oncefound.cases import case_list, is_case_list
from oncefound.cells import possible, sure_cells
from oncefound.changing import exchanged, kept, picked, read, with_matter, with_row
from oncefound.chooser import choice_list, fitting_tree, good_arrows, some_fit
from oncefound.claims import against, is_sure, sure_partings, sure_quartets
from oncefound.closings import closing, closing_of, is_closing, tree_of_closing
from oncefound.desk import Desk
from oncefound.errors import Unlike
from oncefound.fewest import extra, fewest, first_way, ways_many
from oncefound.fillings import changes, filling, fillings_many, is_filling
from oncefound.grown import all_grown, grown, is_grown
from oncefound.listing import agreed, all_trees, fitting, idle, least, only
from oncefound.lots import apart_lots, failing_lots, fitting_lots, ways_out
from oncefound.mixed import is_mixture, mixture
from oncefound.pieces import fits
from oncefound.quartets import parts, quartets, tree_of_quartets
from oncefound.splits import crossed, least_tree, table_of
from oncefound.tables import Table, is_full, used
from oncefound.threes import bad_three
from oncefound.trees import finer, normal, partings, tree_of
from oracles import normal_trees
from samples import Case, crowded_tables
from test_facts import shuffled
from test_quartets import all_quartets


def few(seed, times, unread=(0, 0, 0.2, 0.4), valleys=(2, 3, 4, 4, 4), matters=(1, 2, 3, 4), most_kind=3):
    return crowded_tables(seed, times, valleys, matters, most_kind, unread)


def most_used(table):
    return max(len(used(table, matter)) for matter in range(len(table.kinds)))


class OneTable(Case):
    def test_whether_some_tree_fits_told_by_all(self):
        found = {True: 0, False: 0}
        for _, table in few(3201, 120):
            stands = some_fit(table)
            self.assertIs(bool(fitting(table)), stands)
            self.assertIs(fitting_tree(table) is not None, stands)
            self.assertIs(closing(table) is not None, stands)
            self.assertIs(case_list(table) is None, stands)
            self.assertIs(failing_lots(table) == (), stands)
            self.assertIs(ways_out(table) == ((),), stands)
            self.assertIs(best(table)[0] == 0, stands)
            self.assertIs(Book(table).paper()[0], stands)
            self.assertEqual(Desk(table).say("fits"), "yes" if stands else "no")
            if is_full(table):
                self.assertIs(bool(good_arrows(table)), stands)
                self.assertIs(choice_list(table) is None, stands)
                self.assertIs(bad_three(table) is None, stands)
                if most_used(table) <= 2:
                    self.assertIs(crossed(table) is None, stands)
            found[stands] += 1
        self.assertTrue(min(found.values()) > 15, found)

    def test_the_trees_that_fit(self):
        some = 0
        for _, table in few(3202, 60):
            trees = fitting(table)
            whole = [tree for tree in trees if is_grown(tree)]
            self.same(best(table)[1], whole if trees else best(table)[1])
            for tree in trees:
                self.assertTrue(all(other in whole for other in all_grown(tree)))
                self.assertIn(grown(tree), whole)
            if trees:
                lots = [partings(tree) for tree in whole]
                over_least = {partings(other) for tree in least(table) for other in all_grown(tree)}
                self.assertEqual(over_least, set(lots))
                if is_full(table):
                    over_arrows = set()
                    for arrows in good_arrows(table):
                        over_arrows |= {partings(other) for other in all_grown(arrow_tree(table, arrows))}
                    self.assertEqual(over_arrows, set(lots))
                self.same(only(table), agreed(table) if is_grown(agreed(table)) else None)
                some += 1
        self.assertTrue(some > 20, some)

    def test_what_is_sure(self):
        some = 0
        for _, table in few(3203, 60, valleys=(4, 4, 5), matters=(1, 2, 3)):
            trees = fitting(table)
            if not trees:
                continue
            sure = sure_quartets(table)
            shared = set.intersection(*[set(quartets(tree)) for tree in trees])
            self.same(sure, tuple(sorted(shared)))
            many = len(table.rows)
            inner = tuple(lot for lot in partings(agreed(table)) if 2 <= len(lot) <= many - 2)
            self.same(sure_partings(table), inner)
            self.assertTrue(set(quartets(agreed(table))) <= set(sure))
            if only(table) is not None:
                self.same(sure, quartets(only(table)))
                self.same(tree_of_quartets(many, sure), tree_of(many, inner))
            if is_full(table) and most_used(table) <= 2:
                self.same(sure, quartets(least_tree(table)))
            for quartet in all_quartets(many)[::4]:
                told = against(table, quartet)
                self.assertIs(told is None, is_sure(table, quartet))
                self.assertTrue(told is None or told in trees and not parts(told, quartet))
            some += len(sure) > 0
        self.assertTrue(some > 10, some)

    def test_least_lots_and_best(self):
        for _, table in few(3204, 50, valleys=(4, 5), matters=(3, 4, 5)):
            failing = failing_lots(table)
            self.assertTrue(best(table)[0] >= len(apart_lots(table)))
            self.assertTrue(all(len(lot) >= len(apart_lots(table)) for lot in ways_out(table)))
            for lot in failing:
                self.assertTrue(best(kept(table, lot))[0] > 0)
                told = case_list(kept(table, lot))
                names = [[((lot[m], c), (lot[n], d), later) for (m, c), (n, d), later in branches]
                         for _, branches in told]
                rings = [tuple((lot[m], c) for m, c in ring) for ring, _ in told]
                renamed = tuple((ring, tuple(branches)) for ring, branches in zip(rings, names))
                self.assertIs(is_case_list(table, renamed), True)
            for lot in fitting_lots(table):
                self.assertTrue(lot == () or best(kept(table, lot))[0] == 0)
            if failing:
                self.same(Book(table).failing(), failing[0])
                wanted = [m for m in range(len(table.kinds)) if not all(m in lot for lot in failing)]
                self.same(idle(table), tuple(wanted))

    def test_cells_and_reading(self):
        some = 0
        for _, table in few(3205, 60, (0.2, 0.4), matters=(2, 3)):
            if not some_fit(table):
                continue
            for cell in sure_cells(table):
                self.same(fitting(read(table, *cell)), fitting(table))
                self.same(sure_quartets(read(table, *cell)), sure_quartets(table))
                some += 1
            for valley, row in enumerate(table.rows):
                for matter, now in enumerate(row):
                    if now is None:
                        told = possible(table, valley, matter)
                        letters = "".join("abcdef"[custom] for custom in told)
                        self.assertEqual(Desk(table).say(f"possible {valley} {matter}"), letters)
                        for custom in range(table.kinds[matter]):
                            self.assertIs(some_fit(read(table, valley, matter, custom)), custom in told)
        self.assertTrue(some > 10, some)

    def test_a_valley_more_and_mixtures(self):
        found = set()
        for dice, table in few(3206, 150, (0,), (3, 4, 5), (2, 3, 4, 5)):
            if not some_fit(table):
                continue
            row = tuple(dice.choice(used(table, matter)) for matter in range(len(table.kinds)))
            more = with_row(table, row)
            told = mixture(more, len(table.rows))
            if told is not None:
                self.assertIs(is_mixture(more, len(table.rows), told), True)
                self.assertIs(fits(told[0], table), True)
                self.assertIs(is_filling(told[0], table, told[1]), True)
            if some_fit(more):
                self.assertTrue(told is not None)
            found.add((told is not None, some_fit(more)))
        self.assertTrue({(True, True), (True, False)} <= found)

    def test_exchanged(self):
        for dice, table in few(3207, 40):
            valleys = shuffled(dice, len(table.rows))
            matters = shuffled(dice, len(table.kinds))
            other = exchanged(table, matters, valleys, tuple(shuffled(dice, kind) for kind in table.kinds))
            self.assertEqual(best(other)[0], best(table)[0])
            self.assertEqual(len(best(other)[1]), len(best(table)[1]))
            self.assertEqual(len(fitting(other)), len(fitting(table)))
            self.assertEqual([len(lot) for lot in ways_out(other)], [len(lot) for lot in ways_out(table)])
            if some_fit(table):
                turned = set()
                for quartet in sure_quartets(other):
                    pairs = [tuple(sorted(valleys[valley] for valley in pair)) for pair in quartet]
                    turned.add(tuple(sorted(pairs)))
                self.assertEqual(turned, set(sure_quartets(table)))
                cells = {(valleys[valley], matters[matter]) for valley, matter, _ in sure_cells(other)}
                self.assertEqual(cells, {(valley, matter) for valley, matter, _ in sure_cells(table)})

    def test_fewer_valleys(self):
        for dice, table in few(3208, 60, (0,), (4, 5), (2, 3)):
            valleys = tuple(dice.sample(range(len(table.rows)), 4))
            other = picked(table, valleys)
            self.assertTrue(best(other)[0] <= best(table)[0])
            if some_fit(table):
                for near, far in [((0, 1), (2, 3)), ((0, 2), (1, 3)), ((0, 3), (1, 2))]:
                    named = tuple(sorted(tuple(sorted(valleys[v] for v in pair)) for pair in (near, far)))
                    self.assertTrue(is_sure(table, named) or not is_sure(other, (near, far)))


class OneTree(Case):
    def test_fits_told_by_all(self):
        found = {True: 0, False: 0}
        for _, table in few(3209, 30):
            for tree in normal_trees(len(table.rows))[::3]:
                is_fit = fits(tree, table)
                rows = filling(tree, table)
                self.assertIs(rows is not None, is_fit)
                self.assertIs(fillings_many(tree, table) > 0, is_fit)
                try:
                    self.assertIs(extra(tree, table) == 0, is_fit)
                except Unlike:
                    self.assertIs(is_fit, False)
                    continue
                matters = range(len(table.kinds))
                if is_fit:
                    each = tuple(fewest(tree, table, matter) for matter in matters)
                    self.same(changes(tree, table, rows), each)
                    many = 1
                    for matter in matters:
                        many *= ways_many(tree, table, matter)
                    self.same(fillings_many(tree, table), many)
                    columns = [first_way(tree, table, matter) for matter in matters]
                    self.assertIs(is_filling(tree, table, tuple(zip(*columns))), True)
                    more = closing_of(tree, table, rows)
                    self.assertIs(is_closing(table, more), True)
                    self.assertIs(fits(tree_of_closing(table, more), table), True)
                for matter in matters:
                    if len(used(table, matter)) <= 2:
                        self.assertEqual(len(apart_paths(tree, table, matter)), fewest(tree, table, matter))
                found[is_fit] += 1
        self.assertTrue(min(found.values()) > 50, found)

    def test_tables_of_trees(self):
        for many in (2, 3, 4, 5):
            for tree in all_trees(many)[::14 if many == 5 else 3]:
                table = table_of(tree)
                self.same(least_tree(table), normal(tree))
                self.same(least(table), [tree])
                self.same(agreed(table), tree)
                self.same(sure_quartets(table), quartets(tree))
                self.assertIs(only(table) is not None, is_grown(tree))
                self.same(best(table), (0, all_grown(tree)))

    def test_arrows_and_what_is_finer(self):
        for _, table in few(3210, 20, (0,)):
            for arrows in good_arrows(table)[:4]:
                tree = arrow_tree(table, arrows)
                self.assertIs(is_filling(tree, table, arrow_filling(table, arrows)), True)
                for other in all_grown(tree):
                    self.assertIs(finer(other, tree) and fits(other, table), True)
                    self.same(extra(other, table), 0)


class OneBook(Case):
    def test_papers_of_all_tables_of_a_book(self):
        for dice, table in few(3211, 15, (0.2,)):
            book = Book(table)
            for valley, matter in itertools.product(range(2), range(len(table.kinds))):
                book.read(valley, matter, dice.randrange(table.kinds[matter]))
            book.add_matter(2, tuple(dice.randrange(2) for _ in table.rows))
            self.same(book.table(), with_matter(book.at(len(book) - 1), *book.log()[-1][1:]))
            while len(book) > 0:
                told, paper = book.paper()
                if told:
                    self.assertIs(fits(paper, book.table()), True)
                    self.assertIn(paper, fitting(book.table()))
                else:
                    self.assertIs(is_case_list(book.table(), paper), True)
                book.undo()
            self.same(book.table(), table)

    def test_a_table_and_its_book_and_its_desk(self):
        table = Table((2, 2), ((0, 0), (0, 1), (1, 0), (1, 1)))
        desk = Desk(table)
        self.assertEqual(desk.say("lot"), "+".join(map(str, failing_lots(table)[0])))
        self.assertEqual(desk.say("tree"), "none")
        self.same(desk.book.failing(), failing_lots(table)[0])


if __name__ == "__main__":
    unittest.main()

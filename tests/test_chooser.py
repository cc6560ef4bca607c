"""Point 42: whether some tree fits, good arrows, and choice lists."""

import itertools
import random
import unittest

from oncefound.arrows import arrow_tree
from oncefound.chooser import choice_list, fitting_tree, good_arrows, is_choice_list, some_fit
from oncefound.changing import kept, with_row
from oncefound.customtrees import custom_trees
from oncefound.errors import BadTable, TooMany, Unread
from oncefound.pieces import fits
from oncefound.splits import least_tree
from oncefound.tables import Table, is_full, used
from oncefound.trees import Tree, finer, normal
from oracles import agreeing, arrows_without_clash, normal_trees, trees_of_customs
from samples import Case, any_values, crowded_table, crowded_tables, random_history, random_table, random_tree
from samples import spoiled, table_a, wrong_values
from test_customtrees import random_fulls, table_c
from test_facts import some_fits

FOUR = ((0, 0), (0, 1), (1, 0), (1, 1))
LIST = ((0, ((((0, 1),), 1),)), (1, ((((0, 1),), ("clash", 0)),)))


def table_four():
    """The table of point 42."""
    return Table((2, 2), FOUR)


def table_long():
    """A table of four matters that no tree fits, though each two of the first three do."""
    return Table((3, 3, 3, 2), ((1, 0, 0, 0), (2, 1, 1, 0), (0, 1, 1, 1), (0, 2, 0, 1), (2, 0, 1, 1), (2, 1, 2, 1)))


def is_judged_choice_list(table, thing):
    """The words of the document for what has the right kinds all through."""
    ways = {0: {}}
    told = [0]
    for index, (matter, branches) in enumerate(thing):
        if index not in ways or matter in ways[index] or not 0 <= matter < len(table.kinds):
            return False
        way = ways[index]
        if [tree for tree, _ in branches] != trees_of_customs(table, matter):
            return False
        for tree, what in branches:
            if isinstance(what, tuple):
                if what[1] not in way or agreeing(table, matter, what[1], tree, way[what[1]]):
                    return False
            else:
                told.append(what)
                if not index < what < len(thing):
                    return False
                ways[what] = {**way, matter: tree}
    return sorted(told) == list(range(len(thing)))


def nudged(dice, thing):
    """A choice list with one number of it changed, or two entries exchanged."""
    entries = [list(entry) for entry in thing]
    index = dice.randrange(len(entries))
    matter, branches = entries[index]
    at = dice.randrange(len(branches))
    tree, what = branches[at]
    kind = dice.randrange(5)
    if kind == 0:
        entries[index][0] = dice.randrange(-1, 5)
    elif kind == 1:
        what = dice.randrange(-1, len(entries) + 1)
    elif kind == 2:
        what = ("clash", dice.randrange(-1, 4))
    elif kind == 3:
        tree = dice.choice(branches)[0]
    else:
        other = dice.randrange(len(entries))
        entries[index], entries[other] = entries[other], entries[index]
    if kind < 4:
        entries[index][1] = branches[:at] + ((tree, what),) + branches[at + 1:]
    return tuple((matter, branches) for matter, branches in entries)


class SomeFit(Case):
    def check(self, table, wanted):
        self.assertIs(some_fit(table), wanted)
        tree = fitting_tree(table)
        if wanted:
            self.assertIs(fits(tree, table), True)
            self.same(tree, normal(tree))
        else:
            self.assertIs(tree, None)

    def test_against_all_trees_of_up_to_four_valleys(self):
        found = {}
        for _, table in crowded_tables(1001, 400, (1, 2, 3, 4, 4, 4, 4, 4), (1, 2, 3, 4, 8), 6, (0, 0, 0.1, 0.2, 0.3)):
            wanted = some_fits(table)
            self.check(table, wanted)
            key = (is_full(table), wanted)
            found[key] = found.get(key, 0) + 1
        self.assertTrue(len(found) == 4 and min(found.values()) > 30, found)
        dice = random.Random(1002)
        for _ in range(200):
            table = random_table(dice, matters=dice.randint(1, 4), valleys=dice.randint(1, 4))
            self.check(table, some_fits(table))

    def test_against_all_trees_of_five_valleys(self):
        found = []
        for _, table in crowded_tables(1003, 40, (5,), (2, 3, 4), 3, (0, 0.2, 0.3)):
            found.append(some_fits(table))
            self.check(table, found[-1])
        self.assertTrue(8 < sum(found) < 32, sum(found))

    def test_what_was_read_off_a_tree_fits(self):
        dice = random.Random(1004)
        for unread in (0, 0.3, 0.6, 0.8):
            for _ in range(60):
                tree = random_tree(dice)
                self.check(random_history(dice, tree, most_matters=8, unread=unread)[0], True)

    def test_with_unread_cells_it_is_a_way_to_read_them(self):
        some = {True: 0, False: 0}
        for _, table in crowded_tables(1005, 60, (4, 5, 6), (2, 3, 4), 3, (0.1, 0.15)):
            cells = [[cell] if cell is not None else list(used(table, matter))
                     for row in table.rows for matter, cell in enumerate(row)]
            wide = len(table.kinds)
            ways = [Table(table.kinds, tuple(flat[at:at + wide] for at in range(0, len(flat), wide)))
                    for flat in itertools.product(*cells)]
            self.assertIs(some_fit(table), any(some_fit(way) for way in ways))
            some[some_fit(table)] += 1
        self.assertTrue(min(some.values()) > 5, some)

    def test_against_good_arrows_of_more_valleys(self):
        found = set()
        for _, table in random_fulls(1006, 60, 4, matters=2):
            self.check(table, bool(good_arrows(table)))
            found.add(some_fit(table))
        self.assertEqual(found, {True, False})

    def test_against_the_least_tree_of_two_customs(self):
        dice = random.Random(1007)
        found = {True: 0, False: 0}
        while sum(found.values()) < 200:
            table = random_history(dice, random_tree(dice, 14), most_matters=8, most_kind=2, unread=0)[0]
            if len(table.rows) < 12:
                # What a valley has that stands at another place, or at none.
                row = tuple(dice.choice(used(table, matter)) for matter in range(len(table.kinds)))
                table = with_row(table, dice.choice([row, row, row, table.rows[0]]))
                self.check(table, least_tree(table) is not None)
                found[some_fit(table)] += 1
        self.assertTrue(min(found.values()) > 8, found)

    def test_edges(self):
        self.check(Table((6,), ((5,),)), True)
        self.same(fitting_tree(Table((6,), ((5,),))), Tree((), (0,)))
        self.check(Table((1,) * 8, ((0,) * 8,) * 12), True)
        self.check(Table((6,) * 8, tuple((valley % 6,) * 8 for valley in range(12))), True)
        self.check(Table((6,), ((0,), (1,), (2,), (3,), (4,), (5,)) * 2), True)
        self.check(Table((6, 6), tuple((valley % 6, valley // 2) for valley in range(12))), False)
        self.check(Table((2, 2), FOUR), False)
        self.check(Table((2, 2), ((None, None),) * 8 + FOUR), False)
        self.check(Table((2, 2), ((None, None),) * 9 + FOUR[:3]), True)
        self.check(Table((2, 2), ((None, 0), (0, None), (1, None), (None, 1))), True)

    def test_as_much_as_there_can_be(self):
        dice = random.Random(1008)
        found = set()
        for _ in range(25):
            table = crowded_table(dice, 12, 8, unread=dice.choice((0.5, 0.7, 0.8)))
            tree = fitting_tree(table)
            self.assertIs(some_fit(table), tree is not None)
            self.assertTrue(tree is None or fits(tree, table))
            found.add(tree is None)
        self.assertEqual(found, {True, False})

    def test_many_arrows_do_not_matter(self):
        columns = [(0, 1, 2, 3, 4, 5) * 2] * 8
        self.check(Table((6,) * 8, tuple(zip(*columns))), True)
        columns[7] = (0, 1, 2, 3, 4, 5) + (1, 0, 2, 3, 4, 5)
        self.check(Table((6,) * 8, tuple(zip(*columns))), False)


class GoodArrows(Case):
    def test_example(self):
        self.same(good_arrows(table_c()), [(((0, 1), (1, 2)), ((0, 1),))])
        self.same(good_arrows(table_four()), [])

    def test_against_all_that_agree(self):
        fitting = 0
        count = 0
        for many in (1, 2, 3, 4, 7):
            for _, table in crowded_tables(1010 + many, 14, (many,), (1, 2, 3), 4):
                wanted = arrows_without_clash(table)
                self.same(good_arrows(table), wanted)
                self.assertIs(some_fit(table), bool(wanted))
                if many <= 4:
                    self.assertIs(some_fits(table), bool(wanted))
                fitting += bool(wanted)
                count += 1
        self.assertTrue(10 < fitting < count - 10, (fitting, count))

    def test_the_trees_that_fit_are_finer_than_theirs(self):
        for many in (1, 2, 3, 4):
            for _, table in crowded_tables(1020 + many, 12, (many,), (1, 2, 3), 3):
                told = [arrow_tree(table, arrows) for arrows in good_arrows(table)]
                for tree in normal_trees(many):
                    self.assertIs(fits(tree, table), any(finer(tree, least) for least in told))

    def test_one_matter_and_eight_one_used_custom_alone(self):
        self.same(good_arrows(Table((6,), ((5,),))), [((),)])
        self.same(good_arrows(Table((6, 2) * 4, ((5, 1) * 4,) * 12)), [((),) * 8])
        self.same(good_arrows(Table((6, 2), ((5, 1), (2, 1)))), [(((2, 5),), ())])

    def test_5000_arrows_and_more(self):
        # 1296 for six customs, 3 for three: 3888; with 2 * 3 more of them 11664.
        six = Table((6, 3, 1), tuple((valley, valley % 3, 0) for valley in range(6)))
        self.assertTrue(len(good_arrows(six)) > 0)
        more = Table((6, 3, 3), tuple((valley, valley % 3, valley % 3) for valley in range(6)))
        # 16 * 16 * 16 = 4096, all of which may clash or not.
        fours = Table((4,) * 3, tuple((valley,) * 3 for valley in range(4)))
        self.assertTrue(len(good_arrows(fours)) > 16)
        clashing = Table((6, 4), tuple((valley % 6, valley // 3) for valley in range(12)))
        self.assertIs(some_fit(clashing), False)
        self.assertIs(some_fit(more), True)
        for table in (more, clashing, Table((5, 5), tuple((valley, valley) for valley in range(5)))):
            self.refused(TooMany, good_arrows, table, told={"most": 5000})
            self.refused(TooMany, choice_list, table, told={"most": 5000})
        self.same(choice_list(six), None)
        most = Table((6,) * 8, tuple((custom,) * 8 for custom in range(6)))
        self.refused(TooMany, choice_list, most, told={"most": 5000})

    def test_lists_are_new(self):
        table = table_c()
        good_arrows(table).clear()
        self.assertEqual(len(good_arrows(table)), 1)


class ChoiceList(Case):
    def test_example(self):
        self.assertIs(is_choice_list(table_four(), LIST), True)
        self.assertIs(is_choice_list(table_four(), choice_list(table_four())), True)
        self.assertIs(choice_list(table_c()), None)

    def test_one_exactly_where_there_are_no_good_arrows(self):
        found = {True: 0, False: 0}
        for many in (3, 4, 5, 6):
            for _, table in crowded_tables(1030 + many, 20, (many,), (2, 3, 4), 4):
                told = choice_list(table)
                self.assertIs(told is None, bool(good_arrows(table)))
                if told is not None:
                    self.assertIs(is_choice_list(table, told), True)
                    self.assertIs(is_judged_choice_list(table, told), True)
                found[told is None] += 1
        self.assertTrue(min(found.values()) > 10, found)

    def test_three_matters_each_two_of_which_fit(self):
        table = kept(table_long(), (0, 1, 2))
        told = choice_list(table)
        self.assertTrue(len(told) > 3)
        self.assertIs(is_choice_list(table, told), True)

    def test_what_comes_behind_a_clash_may_be_told_as_well(self):
        # The branch of matter 1 tells an entry in which the clash is told later, by matter 2.
        table = Table((2, 2, 2), tuple(row + (0,) for row in FOUR[:3]) + ((1, 1, 1),))
        line = ((0, 1),)
        longer = ((0, ((line, 1),)), (1, ((line, 2),)), (2, ((line, ("clash", 0)),)))
        self.assertIs(is_choice_list(table, longer), False)
        table = Table((2, 2, 2), tuple(row + row[1:] for row in FOUR))
        self.assertIs(is_choice_list(table, longer), True)
        self.assertIs(is_choice_list(table, longer[:2] + ((2, ((line, ("clash", 1)),)),)), False)
        self.assertIs(is_choice_list(table, (longer[0], (2, ((line, 2),)), (1, ((line, ("clash", 0)),)))), True)

    def test_no_list_for_a_table_that_fits(self):
        for table in (table_c(), Table((2, 2), FOUR[:3])):
            for thing in (LIST, LIST[:1], LIST[1:], ((0, ()),), ((0, tuple((t, 1) for t in custom_trees(table, 0))),)):
                self.assertIs(is_choice_list(table, thing), False)

    def test_what_is_written_otherwise_is_none(self):
        long = kept(table_long(), (0, 1, 2))
        told = choice_list(long)
        for table, right in ((table_four(), LIST), (long, told)):
            for thing in spoiled(right):
                self.assertIs(is_choice_list(table, thing), False, thing)
        for value in any_values():
            self.assertIs(is_choice_list(table_four(), value), False)

    def test_wrong_entries(self):
        line = ((0, 1),)
        wrong = [
            LIST[:1], LIST[1:], (LIST[1], LIST[0]), LIST + LIST[1:], ((0, ((line, 0),)), LIST[1]),
            ((0, ((line, -1),)), LIST[1]), ((0, ((line, 2),)), LIST[1]), ((0, ((line, 2),)), LIST[1], LIST[1]),
            ((0, ((line, 1),)), (0, ((line, ("clash", 0)),))), ((0, ((line, 1),)), (1, ((line, ("clash", 1)),))),
            ((1, ((line, 1),)), LIST[1]), ((0, ((line, ("clash", 1)),)),), ((0, ((line, 1),)), (1, ((line, 1),))),
            ((0, ((line, 1), (line, 1))), LIST[1]), ((0, ((line, 1),)), (2, ((line, ("clash", 0)),))),
            ((0, ((line, 1),)), (1, ((line, ("Clash", 0)),))), ((0, ((line, 1),)), (1, ((line, ("clash", 0, 0)),))),
            ((0, ((line, 1),)), (1, ((line, ("clash",)),))), ((0, ((line, 1),)), (1, ((line, "clash"),))),
            ((0, ((line, 1),)), (0, ((line, 2),)), (1, ((line, ("clash", 0)),))),
            ((0, ((line, 1),)), (1, ((line, 2),)), (1, ((line, ("clash", 0)),))),
            ((0, ((line, 1),)), (1, (((), ("clash", 0)),))), ((0, ((line, 1, 1),)), LIST[1]), ((0, (line, 1)), LIST[1]),
        ]
        for thing in wrong:
            self.assertIs(is_choice_list(table_four(), thing), False, thing)

    def test_nudged_lists_against_what_the_words_say(self):
        dice = random.Random(1040)
        found = {True: 0, False: 0}
        for _, table in crowded_tables(1041, 60, (6, 7), (3, 4), 3):
            told = choice_list(table)
            if told is None:
                continue
            for _ in range(60):
                thing = nudged(dice, told)
                wanted = is_judged_choice_list(table, thing)
                self.assertIs(is_choice_list(table, thing), wanted, thing)
                found[wanted] += 1
        self.assertTrue(min(found.values()) > 50, found)

    def test_any_number_of_arrows_is_judged(self):
        # 1296 * 16 arrows: choice_list is refused, and what is a list is still told.
        table = Table((4, 6), tuple((valley // 3, valley % 6) for valley in range(12)))
        self.refused(TooMany, choice_list, table, told={"most": 5000})
        first = custom_trees(table, 0)
        entries = [(0, tuple((tree, 1 + index) for index, tree in enumerate(first)))]
        self.assertIs(is_choice_list(table, tuple(entries)), False)
        others = custom_trees(table, 1)
        entries += [(1, tuple((tree, ("clash", 0)) for tree in others))] * len(first)
        self.assertIs(is_choice_list(table, tuple(entries)), True)


class Errors(Case):
    def test_bad_table(self):
        for value in any_values():
            if not isinstance(value, Table):
                for function in (some_fit, fitting_tree, good_arrows, choice_list):
                    self.refused(BadTable, function, value)
                self.refused(BadTable, is_choice_list, value, LIST)

    def test_unread_comes_ahead_of_too_many(self):
        many = Table((6, 6, 1), tuple((valley, valley, None) for valley in range(6)) + ((0, 0, 0),))
        for table in (table_a(), many):
            self.refused(Unread, good_arrows, table)
            self.refused(Unread, choice_list, table)
            self.refused(Unread, is_choice_list, table, LIST)
            self.assertIs(some_fit(table), True)
            self.assertIs(fits(fitting_tree(table), table), True)

    def test_any_value(self):
        for value in wrong_values([]):
            self.assertIs(is_choice_list(table_c(), value), False)


if __name__ == "__main__":
    unittest.main()

"""Points 3, 4 and 5: what holds for every function and class."""

import copy
import itertools
import unittest

from oncefound.apart import apart_paths, are_apart
from oncefound.arrows import arrow_clash, arrow_filling, arrow_tree, arrows_of
from oncefound.best import best
from oncefound.book import Book
from oncefound.cases import case_list, is_case_list
from oncefound.cells import possible, sure_cells
from oncefound.chains import chain, is_chain
from oncefound.changing import exchanged, kept, merged, picked, read, with_matter, with_row
from oncefound.chooser import choice_list, fitting_tree, good_arrows, is_choice_list, some_fit
from oncefound.claims import against, is_sure, is_sure_paper, sure_paper, sure_partings, sure_quartets
from oncefound.closings import closing, closing_of, is_closing, tree_of_closing
from oncefound.customtrees import agree, custom_trees, is_custom_tree, pair_partings
from oncefound.desk import Desk
from oncefound.errors import AllUnread, BadArrows, BadClosing, BadColumn, BadCustom, BadCustomTree, BadCustoms
from oncefound.errors import BadFilling, BadKind, BadKinds, BadMany, BadMatter, BadMatters, BadMoment, BadMore
from oncefound.errors import BadParting, BadPartings, BadPlace, BadQuartet, BadQuartets, BadRow, BadRows, BadSeats
from oncefound.errors import BadTable, BadText, BadTie, BadTies, BadTree, BadValley, BadValleys, Clash, Crosses
from oncefound.errors import NoFit, NotThree, NotTwo, OtherMany, TooMany, Unlike, Unread
from oncefound.fewest import customs_at, extra, fewest, first_way, ways_many
from oncefound.fillings import changes, choices, filling, fillings_many, is_filling
from oncefound.grown import all_grown, grown, grown_many, is_grown, partings_free
from oncefound.listing import agreed, all_trees, fitting, idle, least, only
from oncefound.lots import apart_lots, failing_lots, fitting_lots, ways_out
from oncefound.middles import closure, crossing_lots, majority, steps_back
from oncefound.mixed import is_mixture, mixture
from oncefound.pieces import clash, fits, piece
from oncefound.quartets import are_quartets, parts, quartets, tree_of_quartets
from oncefound.rings import is_ring, open_ring
from oncefound.splits import crossed, four, least_tree, table_of
from oncefound.tables import Table, having, is_full, is_row, sorts, used
from oncefound.texts import from_text, to_text
from oncefound.threes import bad_three, middle_pairs, pairs_example
from oncefound.trees import Tree, added, alike, are_partings, common, finer, joined, middle, normal, parting
from oncefound.trees import partings, path, tree_of
from oncefound.web import marks, web
from samples import Case, any_values, nested, shape, table_a, tree_t
from test_apart import PATHS
from test_arrows import CLASHING, GOOD, ROWS, SEATS
from test_cases import SIX, SIX_LIST
from test_chains import CHAIN
from test_cells import CELLS
from test_chooser import LIST, table_four
from test_claims import HALVES, PAPER, QUARTET
from test_customtrees import LINE, table_c
from test_fewest import CROSSED
from test_fillings import RIGHT
from test_mixed import MIXTURE, SQUARE
from test_pieces import table_p
from test_quartets import FIVE
from test_rings import ACROSS, LONG
from test_splits import table_u
from test_web import table_apart

TABLE = ("table", table_a(), BadTable)
TREE = ("tree", tree_t(), BadTree)
MATTER = ("matter", 1, BadMatter)
CUSTOMS = ((1, 0), (0, 1, 2))
TWO_TREES = (("one", tree_t(), BadTree), ("other", tree_of(4, ((2, 3),)), BadTree))
TREE_AND_TABLE = (TREE, ("table", table_p(), BadTable))
TABLE_U = ("table", table_u(), BadTable)
TABLE_C = ("table", table_c(), BadTable)
TABLE_FOUR = ("table", table_four(), BadTable)
TABLE_APART = ("table", table_apart(), BadTable)
TABLE_SIX = ("table", SIX, BadTable)
TABLE_PAIRS = ("table", pairs_example(), BadTable)
TREE_AND_CROSSED = (TREE, ("table", CROSSED, BadTable))
TABLE_SQUARE = ("table", SQUARE, BadTable)
TABLE_HALVES = ("table", HALVES, BadTable)
ARROWS = ("arrows", GOOD, BadArrows)
PARTED = ("quartet", QUARTET, BadQuartet)

# Each function and class: its parameters with a value that is right, and the error of a wrong one.
CALLS = (
    (Table, ("kinds", (2, 3), BadKinds), ("rows", ((0, 0), (1, None)), BadRows)),
    (is_row, TABLE, ("thing", (0, None), None)),
    (is_full, TABLE),
    (used, TABLE, MATTER),
    (having, TABLE, MATTER, ("custom", 2, BadCustom)),
    (sorts, TABLE),
    (kept, TABLE, ("matters", (1,), BadMatters)),
    (picked, TABLE, ("valleys", (3, 1), BadValleys)),
    (read, TABLE, ("valley", 2, BadValley), MATTER, ("custom", None, BadCustom)),
    (with_row, TABLE, ("row", (1, 1), BadRow)),
    (with_matter, TABLE, ("kind", 2, BadKind), ("column", (1, None, 0, 0), BadColumn)),
    (merged, TABLE, MATTER, ("one", 2, BadCustom), ("other", 0, BadCustom)),
    (exchanged, TABLE, ("matters", (1, 0), BadMatters), ("valleys", (3, 1, 0, 2), BadValleys),
     ("customs", CUSTOMS, BadCustoms)),
    (to_text, TABLE),
    (from_text, ("text", "kinds 2 3\nab", BadText)),
    (Tree, ("ties", ((0, 1), (1, 2)), BadTies), ("seats", (0, 1, 1, 2), BadSeats)),
    (path, TREE, ("one", 1, BadPlace), ("other", 4, BadPlace)),
    (middle, TREE, ("one", 1, BadPlace), ("other", 2, BadPlace), ("third", 4, BadPlace)),
    (parting, TREE, ("tie", (0, 3), BadTie)),
    (partings, TREE),
    (alike, *TWO_TREES),
    (are_partings, ("many", 4, BadMany), ("thing", ((1,), (2, 3)), None)),
    (tree_of, ("many", 4, BadMany), ("lots", ((1,), (2, 3)), BadPartings)),
    (normal, TREE),
    (joined, TREE, ("tie", (0, 3), BadTie)),
    (added, TREE, ("lot", (1, 2, 3), BadParting)),
    (finer, *TWO_TREES),
    (common, *TWO_TREES),
    (piece, *TREE_AND_TABLE, MATTER, ("custom", 2, BadCustom)),
    (fits, *TREE_AND_TABLE),
    (clash, *TREE_AND_TABLE),
    (is_filling, *TREE_AND_TABLE, ("thing", RIGHT, None)),
    (filling, *TREE_AND_TABLE),
    (fillings_many, *TREE_AND_TABLE),
    (choices, *TREE_AND_TABLE, ("place", 3, BadPlace), MATTER),
    (changes, *TREE_AND_TABLE, ("rows", RIGHT, BadFilling)),
    (crossed, TABLE_U),
    (least_tree, TABLE_U),
    (four, TABLE_U, ("one", 2, BadMatter), ("other", 1, BadMatter)),
    (table_of, TREE),
    (majority, TABLE_U, ("one", 0, BadValley), ("other", 2, BadValley), ("third", 3, BadValley)),
    (closure, TABLE_U),
    (crossing_lots, TABLE_U),
    (steps_back, TABLE_U, ("row", (1, 1, 1), BadRow)),
    (custom_trees, TABLE_C, ("matter", 0, BadMatter)),
    (is_custom_tree, TABLE_C, ("matter", 0, BadMatter), ("thing", LINE, None)),
    (pair_partings, TABLE_C, ("matter", 0, BadMatter), ("custom_tree", LINE, BadCustomTree)),
    (agree, TABLE_C, ("one", 0, BadMatter), ("first", LINE, BadCustomTree), ("other", 1, BadMatter),
     ("second", ((0, 1),), BadCustomTree)),
    (arrow_clash, TABLE_C, ARROWS),
    (arrow_tree, TABLE_C, ARROWS),
    (arrow_filling, TABLE_C, ARROWS),
    (arrows_of, ("tree", SEATS, BadTree), TABLE_C, ("rows", ROWS, BadFilling)),
    (some_fit, TABLE),
    (fitting_tree, TABLE),
    (good_arrows, TABLE_C),
    (choice_list, TABLE_FOUR),
    (is_choice_list, TABLE_FOUR, ("thing", LIST, None)),
    (marks, TABLE),
    (web, TABLE),
    (open_ring, TABLE_APART, ("more", (), BadMore)),
    (is_ring, TABLE_APART, ("more", ACROSS, BadMore), ("thing", LONG, None)),
    (is_closing, TABLE_APART, ("thing", ACROSS, None)),
    (closing_of, *TREE_AND_TABLE, ("rows", RIGHT, BadFilling)),
    (closing, TABLE_APART),
    (tree_of_closing, TABLE_APART, ("more", ACROSS, BadClosing)),
    (case_list, TABLE_SIX),
    (is_case_list, TABLE_SIX, ("thing", SIX_LIST, None)),
    (bad_three, TABLE_PAIRS),
    (middle_pairs, TABLE_PAIRS, ("one", 0, BadMatter), ("other", 1, BadMatter)),
    (pairs_example,),
    (chain, TABLE_PAIRS),
    (is_chain, TABLE_PAIRS, ("thing", CHAIN, None)),
    (failing_lots, TABLE_SIX),
    (fitting_lots, TABLE_SIX),
    (ways_out, TABLE_SIX),
    (apart_lots, TABLE_SIX),
    (all_trees, ("many", 4, BadMany)),
    (fitting, TABLE),
    (least, TABLE),
    (agreed, TABLE),
    (only, TABLE),
    (idle, TABLE),
    (partings_free, TREE),
    (is_grown, TREE),
    (grown, TREE),
    (grown_many, TREE),
    (all_grown, TREE),
    (mixture, TABLE_SQUARE, ("valley", 3, BadValley)),
    (is_mixture, TABLE_SQUARE, ("valley", 3, BadValley), ("thing", MIXTURE, None)),
    (parts, TREE, PARTED),
    (quartets, TREE),
    (are_quartets, ("many", 5, BadMany), ("thing", FIVE, None)),
    (tree_of_quartets, ("many", 5, BadMany), ("several", FIVE, BadQuartets)),
    (is_sure, TABLE_HALVES, PARTED),
    (against, TABLE_HALVES, ("quartet", ((0, 2), (1, 3)), BadQuartet)),
    (sure_quartets, TABLE_HALVES),
    (sure_partings, TABLE_HALVES),
    (sure_paper, TABLE_HALVES, PARTED),
    (is_sure_paper, TABLE_HALVES, PARTED, ("thing", PAPER, None)),
    (possible, ("table", CELLS, BadTable), ("valley", 2, BadValley), MATTER),
    (sure_cells, ("table", CELLS, BadTable)),
    (fewest, *TREE_AND_TABLE, MATTER),
    (ways_many, *TREE_AND_TABLE, MATTER),
    (first_way, *TREE_AND_TABLE, MATTER),
    (customs_at, *TREE_AND_TABLE, ("place", 3, BadPlace), MATTER),
    (extra, *TREE_AND_TABLE),
    (are_apart, *TREE_AND_CROSSED, ("matter", 0, BadMatter), ("thing", PATHS, None)),
    (apart_paths, *TREE_AND_CROSSED, ("matter", 0, BadMatter)),
    (best, TABLE),
    (Book, TABLE),
    (Desk, TABLE),
)


def wrong_anywhere():
    """Values of all kinds that are right for no parameter of CALLS that has an error."""
    return [
        "?", "", True, False, -1, 999999999, -999999999, [], [0], [(0, 1)], {}, {0: 0}, {"a": [1]}, ("a", None),
        (True,), (None, False), nested(lambda value: [value]), nested(lambda value: (value,)),
        nested(lambda value: {1: value}), (table_a(),), [tree_t()], BadTable("x"),
    ]


def outcome(function, *values, **named):
    try:
        return shape(function(*values, **named))
    except ValueError as caught:
        return (type(caught), vars(caught))


class Calls(Case):
    def test_by_position_and_by_name(self):
        for function, *parameters in CALLS:
            values = [value for _, value, _ in parameters]
            named = {name: value for name, value, _ in parameters}
            wanted = shape(function(*values))
            for turned in (named, dict(reversed(named.items()))):
                self.assertEqual(shape(function(**turned)), wanted, function)
            for count in range(len(values)):
                rest = dict(list(named.items())[count:])
                self.assertEqual(shape(function(*values[:count], **rest)), wanted, function)

    def test_equal_arguments_give_equal_results(self):
        for function, *parameters in CALLS:
            values = [value for _, value, _ in parameters]
            again = copy.deepcopy(values)
            self.assertEqual(shape(function(*values)), shape(function(*again)), function)

    def test_the_first_wrong_parameter_is_told(self):
        for function, *parameters in CALLS:
            for wrong in itertools.product((False, True), repeat=len(parameters)):
                errors = [error for (_, _, error), is_wrong in zip(parameters, wrong) if is_wrong and error]
                for value in wrong_anywhere() if errors else ():
                    values = [value if is_wrong else right for (_, right, _), is_wrong in zip(parameters, wrong)]
                    named = {name: given for (name, _, _), given in zip(parameters, values)}
                    self.assertIs(outcome(function, *values)[0], errors[0], (function, values))
                    self.assertIs(outcome(function, **named)[0], errors[0], (function, values))

    def test_what_judges_any_value_raises_nothing_for_it(self):
        judging = [call for call in CALLS if len(call) > 1 and call[-1][2] is None]
        known = [is_row, are_partings, is_filling, is_custom_tree, is_choice_list, is_ring, is_closing,
                 is_case_list, is_chain, is_mixture, are_quartets, is_sure_paper, are_apart]
        self.assertEqual([call[0] for call in judging], known)
        for function, *parameters in judging:
            ahead = [value for _, value, _ in parameters[:-1]]
            self.assertIs(function(*ahead, parameters[-1][1]), True)
            for value in any_values() + wrong_anywhere():
                self.assertIs(type(function(*ahead, value)), bool)

    def test_what_is_passed_is_not_changed(self):
        for function, *parameters in CALLS:
            right = [value for _, value, _ in parameters]
            for index in range(len(right)):
                for value in [right[index], *any_values()]:
                    values = right[:index] + [value] + right[index + 1:]
                    before = [shape(item) for item in values]
                    written = repr(value)
                    outcome(function, *values)
                    self.assertEqual([shape(item) for item in values], before, function)
                    self.assertEqual(repr(value), written, function)

    def test_what_raises_leaves_its_table_as_it_was(self):
        table, tree = table_a(), tree_t()
        self.refused(AllUnread, picked, table, (1,), told={"matter": 1})
        self.refused(Crosses, added, tree, (1, 2), told={"parting": (2, 3)})
        self.same(table, table_a())
        self.same(tree, tree_t())


class Numbers(Case):
    def test_true_is_not_1_and_false_is_not_0(self):
        self.assertIs(is_row(table_a(), (1, 0)), True)
        for row in ((True, 0), (1, False), (True, False), (None, True)):
            self.assertIs(is_row(table_a(), row), False)
            self.refused(BadRow, with_row, table_a(), row)
            self.refused(BadRows, Table, (2, 3), ((0, 0), row))
        self.refused(BadKinds, Table, (True,), ((0,),))
        self.refused(BadMatter, used, table_a(), True)
        self.refused(BadCustom, having, table_a(), 0, True)
        self.refused(BadMatters, kept, table_a(), (False,))
        self.refused(BadMatters, kept, table_a(), (False, 1))
        self.refused(BadValleys, picked, table_a(), (0, True))
        self.refused(BadValley, read, table_a(), True, 0, 0)
        self.refused(BadMatter, read, table_a(), 0, False, 0)
        self.refused(BadCustom, read, table_a(), 0, 0, True)
        self.refused(BadKind, with_matter, table_a(), True, (0, 0, 0, 0))
        self.refused(BadColumn, with_matter, table_a(), 2, (0, 1, True, 0))
        self.refused(BadCustom, merged, table_a(), 0, False, 1)
        self.refused(BadCustom, merged, table_a(), 0, 0, True)
        self.refused(BadMatters, exchanged, table_a(), (True, 0), (0, 1, 2, 3), CUSTOMS)
        self.refused(BadValleys, exchanged, table_a(), (1, 0), (False, 1, 2, 3), CUSTOMS)
        self.refused(BadCustoms, exchanged, table_a(), (1, 0), (0, 1, 2, 3), ((True, 0), (0, 1, 2)))
        self.refused(BadTies, Tree, ((0, True),), (0, 1))
        self.refused(BadSeats, Tree, ((0, 1),), (False, 1))
        self.refused(BadPlace, path, tree_t(), True, 0)
        self.refused(BadTie, parting, tree_t(), (0, True))
        self.refused(BadTie, joined, tree_t(), (False, 1))
        self.refused(BadMany, tree_of, True, ())
        self.refused(BadPartings, tree_of, 4, ((True,),))
        self.refused(BadParting, added, tree_t(), (True, 2, 3))
        self.assertIs(are_partings(4, ((True, 2),)), False)
        self.refused(BadCustom, piece, tree_t(), table_p(), 1, True)
        self.refused(BadMatter, piece, tree_t(), table_p(), True, 0)
        self.refused(BadPlace, choices, tree_t(), table_p(), True, 1)
        self.refused(BadMatter, choices, tree_t(), table_p(), 1, True)
        self.refused(BadFilling, changes, tree_t(), table_p(), RIGHT[:3] + ((True, 0), (1, 2)))
        self.assertIs(is_filling(tree_t(), table_p(), RIGHT[:3] + ((True, 0), (1, 2))), False)
        self.refused(BadMatter, four, table_u(), True, 0)
        self.refused(BadMatter, four, table_u(), 0, True)
        self.refused(BadValley, majority, table_u(), 0, 1, True)
        self.refused(BadRow, steps_back, table_u(), (1, True, 0))
        self.refused(BadMatter, custom_trees, table_c(), False)
        self.assertIs(is_custom_tree(table_c(), 0, ((0, True), (1, 2))), False)
        self.refused(BadCustomTree, pair_partings, table_c(), 0, ((False, 1), (1, 2)))
        self.refused(BadCustomTree, agree, table_c(), 0, LINE, 1, ((0, True),))
        self.refused(BadArrows, arrow_tree, table_c(), (LINE, ((False, 1),)))
        self.refused(BadFilling, arrows_of, SEATS, table_c(), ROWS[:3] + ((True, 1),))
        self.assertIs(is_choice_list(table_four(), ((False,) + LIST[0][1:], LIST[1])), False)
        self.refused(BadMore, open_ring, table_apart(), (((True, 0), (2, 0)),))
        self.assertIs(is_ring(table_apart(), (), LONG[:3] + ((2, False),)), False)
        self.assertIs(is_closing(table_apart(), (((1, False), (2, 0)),)), False)
        self.assertIs(is_case_list(SIX, ((SIX_LIST[0][0], (((0, 0), (1, 2), True),) + SIX_LIST[0][1][1:]),)
                                   + SIX_LIST[1:]), False)
        self.assertIs(is_chain(pairs_example(), (((False, 2, "outer"),) + CHAIN[0][1:], CHAIN[1])), False)
        self.refused(BadMatter, middle_pairs, pairs_example(), False, 1)
        self.refused(BadMatter, middle_pairs, pairs_example(), 0, True)
        self.refused(BadMany, all_trees, True)
        self.refused(BadValley, mixture, SQUARE, True)
        self.assertIs(is_mixture(SQUARE, 3, MIXTURE[:2] + (True, 2)), False)
        self.assertIs(is_mixture(SQUARE, 3, (MIXTURE[0], ((False, 0), (0, 1), (1, 0)), 1, 2)), False)
        self.refused(BadQuartet, parts, tree_t(), ((False, 1), (2, 3)))
        self.assertIs(are_quartets(5, (((0, True), (2, 3)),) + FIVE[1:]), False)
        self.refused(BadMany, are_quartets, True, ())
        self.refused(BadQuartets, tree_of_quartets, 5, (((False, 1), (2, 3)),) + FIVE[1:])
        self.refused(BadQuartet, is_sure, HALVES, ((0, True), (2, 3)))
        self.assertIs(is_sure_paper(HALVES, QUARTET, ((((((0, False),) + PAPER[0][0][0][1:]), ()),), PAPER[1])), False)
        self.refused(BadValley, possible, CELLS, True, 1)
        self.refused(BadMatter, possible, CELLS, 2, True)
        for function in (fewest, ways_many, first_way, apart_paths):
            self.refused(BadMatter, function, tree_t(), CROSSED, False)
        self.refused(BadPlace, customs_at, tree_t(), CROSSED, True, 0)
        self.refused(BadMatter, customs_at, tree_t(), CROSSED, 1, False)
        self.assertIs(are_apart(tree_t(), CROSSED, 0, ((False, 1),)), False)
        self.refused(BadMoment, Book(table_a()).at, False)
        self.refused(BadValley, Book(table_a()).drop_valley, True)

    def test_results_have_no_truth_values_in_the_place_of_numbers(self):
        for function, *parameters in CALLS:
            result = function(*[value for _, value, _ in parameters])
            if not isinstance(result, bool):
                self.assertNotIn("bool", str(shape(result)), function)


class OrderOfErrors(Case):
    def test_too_many_comes_behind_all_others(self):
        twelve = Table((2, 3), ((0, 2),) * 12)
        eight = Table((2,) * 8, ((0,) * 8,))
        self.refused(BadRow, with_row, twelve, (0, 3))
        self.refused(TooMany, with_row, twelve, (0, 2), told={"most": 12})
        self.refused(BadKind, with_matter, eight, 0, None)
        self.refused(BadColumn, with_matter, eight, 2, (2,))
        self.refused(TooMany, with_matter, eight, 2, (1,), told={"most": 8})

    def test_all_unread_comes_behind_what_is_judged_first(self):
        table = Table((2, 3), ((0, None), (1, 2)))
        self.refused(BadValleys, picked, table, (0, 0))
        self.refused(AllUnread, picked, table, (0,), told={"matter": 1})
        self.refused(BadCustom, read, table, 1, 1, "None")
        self.refused(AllUnread, read, table, 1, 1, None, told={"matter": 1})

    def test_other_many_comes_ahead_of_all_but_bad_tree_and_bad_table(self):
        for function, *parameters in CALLS:
            if parameters[:2] in (list(TREE_AND_TABLE), list(TREE_AND_CROSSED)):
                rest = ["?"] * (len(parameters) - 2)
                self.refused(BadTree, function, None, None, *rest)
                self.refused(BadTable, function, Tree((), (0,)), None, *rest)
                self.refused(OtherMany, function, Tree((), (0,)), table_p(), *rest)
                self.refused(OtherMany, function, tree_t(), Table((1,), ((0,),)), *rest)

    def test_other_many_comes_behind_bad_tree(self):
        for function in (alike, finer, common):
            self.refused(BadTree, function, Tree((), (0,)), [tree_t()])
            self.refused(OtherMany, function, Tree((), (0,)), tree_t())

    def test_unread_comes_behind_other_many_and_ahead_of_the_rest(self):
        for function, *parameters in CALLS:
            if TABLE_C in parameters:
                for value in wrong_anywhere():
                    given = [table_a() if name == "table" else value for name, _, _ in parameters]
                    if parameters[0][0] == "tree":
                        self.refused(BadTree, function, *given)
                        self.refused(OtherMany, function, Tree((), (0,)), *given[1:])
                        given[0] = SEATS
                    self.refused(Unread, function, *given)

    def test_not_three_comes_behind_unread_and_ahead_of_the_rest(self):
        four = Table((1, 4), ((0, 0), (0, 1), (0, 2), (0, 3)))
        unread = Table((4, 1), ((0, 0), (1, None), (2, 0), (3, 0)))
        for function, *parameters in CALLS:
            if TABLE_PAIRS in parameters:
                for value in wrong_anywhere():
                    rest = [value] * (len(parameters) - 1)
                    self.refused(BadTable, function, value, *rest)
                    self.refused(Unread, function, unread, *rest)
                    self.refused(NotThree, function, four, *rest, told={"matter": 1})

    def test_no_fit_comes_behind_too_many(self):
        square = table_four().rows
        self.refused(TooMany, agreed, Table((2, 2), square + square), told={"most": 5})
        self.refused(NoFit, agreed, table_four())
        self.refused(TooMany, mixture, Table((2, 2), square + square), 7, told={"most": 6})
        self.refused(NoFit, mixture, Table((2, 2), square + square[3:]), 4)
        eight = Table((2,) * 8, tuple(row * 4 for row in square))
        self.refused(BadQuartet, sure_paper, eight, QUARTET[::-1])
        self.refused(TooMany, sure_paper, eight, QUARTET, told={"most": 8})
        self.refused(NoFit, sure_paper, SQUARE, QUARTET)

    def test_all_unread_comes_ahead_of_no_fit(self):
        table = Table((2, 2, 1), tuple(row + (None,) for row in SQUARE.rows) + ((0, 0, 0),))
        self.refused(AllUnread, possible, table, 4, 2, told={"matter": 2})
        self.refused(NoFit, possible, table, 4, 1)

    def test_unlike_and_not_two_come_last(self):
        star = Tree((), (0,) * 4)
        four = Table((1, 4), ((0, 0), (0, 1), (0, 2), (0, 3)))
        self.refused(BadPlace, customs_at, star, four, 1, 2)
        self.refused(BadMatter, customs_at, star, four, 0, 2)
        self.refused(Unlike, customs_at, star, four, 0, 1, told={"place": 0})
        self.refused(BadMatter, apart_paths, star, four, 2)
        self.refused(NotTwo, apart_paths, star, four, 1, told={"matter": 1})
        self.refused(Unlike, apart_paths, star, CROSSED, 0, told={"place": 0})

    def test_clash_comes_behind_bad_arrows(self):
        self.refused(BadArrows, arrow_filling, table_c(), CLASHING[::-1])
        self.refused(Clash, arrow_filling, table_c(), CLASHING)

    def test_crosses_comes_behind_bad_parting(self):
        tree = tree_of(4, ((1, 2), (2,)))
        self.refused(BadParting, added, tree, (0, 1, 3))
        self.refused(BadParting, added, tree, (1, 2))
        self.refused(Crosses, added, tree, (1, 3), told={"parting": (1, 2)})


if __name__ == "__main__":
    unittest.main()

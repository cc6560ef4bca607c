"""Point 101: a desk, which leads a book by sayings."""

import random
import unittest

from oncefound.book import Book
from oncefound.chooser import fitting_tree, some_fit
from oncefound.claims import is_sure
from oncefound.desk import Desk
from oncefound.errors import BadTable, FoundError
from oncefound.pieces import fits
from oncefound.tables import Table
from oncefound.texts import to_text
from oncefound.trees import tree_of
from samples import Case, any_values, crowded_table, shape
from test_book import state, table_b

LETTER = {None: "?", 0: "a", 1: "b", 2: "c", 3: "d", 4: "e", 5: "f"}
SQUARE = Table((2, 2), ((0, 0), (0, 1), (1, 0), (1, 1)))
HALVES = Table((2,), ((0,), (0,), (1,), (1,)))


def in_letters(cells):
    return "".join(LETTER[cell] for cell in cells)


def in_line(table):
    return " / ".join(to_text(table).split("\n"))


def told_tree(answer, many):
    """The normal tree whose partings an answer tells."""
    lots = [] if answer == "bare" else [tuple(map(int, word.split("+"))) for word in answer.split(" ")]
    return tree_of(many, tuple(lots))


class Say(Case):
    def says(self, desk, row, wanted):
        answer = desk.say(row)
        self.assertIs(type(answer), str)
        self.assertEqual(answer, wanted, row)

    def test_example(self):
        desk = Desk(table_b())
        self.says(desk, "add bb", "done")
        self.says(desk, " fits ", "no")
        self.says(desk, "lot", "0+1")
        self.says(desk, "table", "kinds 2 2 / aa / ab / ba / bb")
        self.says(desk, "drop 4", "refused")
        for row in ("drop four", "Fits", "", None):
            self.says(desk, row, "what")
        self.says(desk, "undo", "done")
        self.assertIn(desk.say("tree"), ("1 2", "1 1+2 2"))

    def test_each_deed_against_the_book(self):
        desk, book = Desk(Table((2, 3), ((0, 0), (1, None), (0, 0), (1, 2)))), None
        book = Book(desk.book.first())
        for row, deed in (
            ("add b?", ("add_valley", (1, None))), ("add ac", ("add_valley", (0, 2))), ("drop 1", ("drop_valley", 1)),
            ("read 0 1 ?", ("read", 0, 1, None)), ("read 2 0 b", ("read", 2, 0, 1)),
            ("matter 6 f?a?b", ("add_matter", 6, (5, None, 0, None, 1))), ("merge 2 f a", ("merge", 2, 5, 0)),
            ("forget 1", ("drop_matter", 1)), ("drop 0", ("drop_valley", 0)),
        ):
            self.says(desk, row, "done")
            getattr(book, deed[0])(*deed[1:])
            self.assertEqual(shape(desk.book.log()[-1]), shape(deed))
            self.assertTrue(desk.book == book)
            self.says(desk, "table", in_line(book.table()))
            self.says(desk, "count", str(len(book)))
        for _ in range(9):
            self.says(desk, "undo", "done")
            book.undo()
            self.assertTrue(desk.book == book)
        self.says(desk, "undo", "refused")
        for _ in range(9):
            self.says(desk, "redo", "done")
        self.says(desk, "redo", "refused")
        self.says(desk, "at 0", in_line(book.first()))
        for count in range(10):
            self.says(desk, f"at {count}", in_line(desk.book.at(count)))
        self.says(desk, "at 10", "refused")

    def test_refused_changes_nothing(self):
        desk = Desk(table_b())
        desk.say("add bb")
        desk.say("add ab")
        desk.say("undo")
        before = state(desk.book)
        for row in ("add b", "add bbb", "add bc", "add bf", "drop 4", "drop 999999999", "read 4 0 a", "read 0 2 a",
                    "read 0 0 c", "matter 0 aaaa", "matter 7 aaaa", "matter 2 aaa", "matter 2 ????", "matter 1 aaab",
                    "forget 2", "merge 2 a b", "merge 0 a a", "merge 0 ? a", "merge 0 a ?", "merge 0 a c", "at 3",
                    "possible 4 0", "possible 0 2", "sure 0 1 2 3", "sure 0 1 2 4", "sure 1 0 2 3", "sure 0 0 1 2"):
            self.says(desk, row, "refused")
            self.assertEqual(state(desk.book), before)
        self.says(desk, "redo", "done")
        lone = Desk(Table((2,), ((1,),)))
        for row in ("drop 0", "forget 0", "read 0 0 ?", "possible 0 0", "undo", "redo", "merge 0 b b", "at 1"):
            self.says(lone, row, "refused")
        self.assertEqual(len(lone.book), 0)

    def test_the_thirteenth_valley_and_the_ninth_matter(self):
        desk = Desk(Table((1,), ((0,),)))
        for _ in range(11):
            self.says(desk, "add a", "done")
        self.says(desk, "add a", "refused")
        for _ in range(7):
            self.says(desk, "matter 1 aaaaaaaaaaaa", "done")
        self.says(desk, "matter 1 aaaaaaaaaaaa", "refused")
        self.says(desk, "count", "18")

    def test_asking(self):
        found = set()
        for seed in range(40):
            dice = random.Random(3100 + seed)
            table = crowded_table(dice, dice.randint(1, 6), dice.randint(1, 4), 4, 0.2)
            desk, book = Desk(table), Book(table)
            before = state(desk.book)
            self.says(desk, "fits", "yes" if some_fit(table) else "no")
            failing = book.failing()
            self.says(desk, "lot", "none" if failing is None else "+".join(map(str, failing)))
            answer = desk.say("tree")
            if some_fit(table):
                tree = told_tree(answer, len(table.rows))
                self.assertIs(fits(tree, table), True)
                self.same(tree, told_tree(answer, len(table.rows)))
            else:
                self.assertEqual(answer, "none")
            for _ in range(6):
                valley, matter = dice.randrange(7), dice.randrange(5)
                try:
                    wanted = in_letters(book.possible(valley, matter))
                except FoundError:
                    wanted = "refused"
                self.says(desk, f"possible {valley} {matter}", wanted)
                numbers = [dice.randrange(7) for _ in range(4)]
                if dice.random() < 0.8:
                    numbers = sorted(dice.sample(range(7), 4))
                try:
                    wanted = "yes" if is_sure(table, (tuple(numbers[:2]), tuple(numbers[2:]))) else "no"
                except FoundError:
                    wanted = "refused"
                self.says(desk, "sure {} {} {} {}".format(*numbers), wanted)
                found.add(wanted)
            self.assertEqual(state(desk.book), before)
        self.assertEqual(found, {"yes", "no", "refused"})

    def test_answers_of_each_kind(self):
        desk = Desk(SQUARE)
        self.says(desk, "tree", "none")
        self.says(desk, "fits", "no")
        self.says(desk, "lot", "0+1")
        self.says(desk, "sure 0 1 2 3", "refused")
        self.says(desk, "possible 3 1", "a")
        halves = Desk(HALVES)
        self.says(halves, "sure 0 1 2 3", "yes")
        self.says(halves, "sure 0 2 1 3", "no")
        # The numbers are taken as they stand.
        self.says(halves, "sure 2 3 0 1", "refused")
        self.says(halves, "sure 1 0 2 3", "refused")
        self.says(halves, "sure 0 1 3 2", "refused")
        self.says(halves, "sure 0 1 2 2", "refused")
        self.says(halves, "lot", "none")
        self.says(halves, "possible 0 0", "ab")
        one = Desk(Table((6,), ((5,),)))
        self.says(one, "tree", "bare")
        self.says(one, "fits", "yes")
        self.says(one, "table", "kinds 6 / f")
        self.says(one, "count", "0")
        self.says(Desk(Table((2,), ((0,), (1,)))), "tree", "1")
        three = Desk(Table((6,), ((5,), (None,), (2,))))
        self.says(three, "table", "kinds 6 / f / ? / c")
        self.says(three, "possible 1 0", "abcdef")
        twelve = Desk(Table((2,), ((0,),) * 11 + ((1,),)))
        self.assertIs(fits(told_tree(twelve.say("tree"), 12), twelve.book.table()), True)
        self.same(fitting_tree(twelve.book.table()), told_tree(twelve.say("tree"), 12))

    def test_spaces(self):
        for row in ("add bb", " add bb", "add bb ", "add  bb", "   add    bb   "):
            desk = Desk(table_b())
            self.says(desk, row, "done")
            self.same(desk.book.log(), [("add_valley", (1, 1))])
        for row in ("\tadd bb", "add\tbb", "add bb\n", "\nadd bb", "add\nbb", "add bb\r", "add\u00a0bb", "add\u2003bb",
                    "add b b", "ad d bb", "addbb", "fits\n", "fits\t", "\x0bfits", "fits .", ".fits"):
            desk = Desk(table_b())
            self.says(desk, row, "what")
            self.assertEqual(len(desk.book), 0)
        for row in ("", " ", "     ", "\n", "\t"):
            self.says(Desk(table_b()), row, "what")

    def test_numbers(self):
        for word in ("0", "00", "000000000"):
            desk = Desk(table_b())
            self.says(desk, f"drop {word}", "done")
            self.same(desk.book.log(), [("drop_valley", 0)])
        desk = Desk(table_b())
        self.says(desk, "drop 000000002", "done")
        self.same(desk.book.log(), [("drop_valley", 2)])
        self.says(desk, "drop 999999999", "refused")
        for word in ("0000000000", "1000000000", "0000000001", "-1", "+1", "1.0", "0x1", "1_0", "\u0661", "\u00b2",
                     "\uff11", "\u0967", "a", "?", "one", "1,", "1e0", "None", "True"):
            self.says(desk, f"drop {word}", "what")
            self.says(desk, f"at {word}", "what")
            self.says(desk, f"possible 0 {word}", "what")
            self.says(desk, f"sure 0 1 2 {word}", "what")
        self.assertEqual(len(desk.book), 1)

    def test_cells(self):
        desk = Desk(Table((6, 6), ((0, 0), (1, 1))))
        self.says(desk, "add f?", "done")
        self.says(desk, "add ??", "done")
        self.says(desk, "read 3 0 e", "done")
        self.says(desk, "read 3 0 ?", "done")
        self.same(desk.book.table(), Table((6, 6), ((0, 0), (1, 1), (5, None), (None, None))))
        for row in ("add ag", "add A?", "add aB", "add a0", "add 00", "add a-", "add \u00e4a", "read 0 0 g",
                    "read 0 0 ab", "read 0 0 ??", "read 0 0 A", "read 0 0 0", "matter 2 aabg", "matter a aaaa",
                    "merge 0 ab a", "merge 0 a ab", "merge 0 g a", "merge 0 a 1", "add a?!", "matter 2 01??"):
            self.says(desk, row, "what")
        self.assertEqual(len(desk.book), 4)

    def test_too_many_words_and_too_few(self):
        desk = Desk(table_b())
        for row in ("add", "add bb bb", "drop", "drop 0 1", "read 0 0", "read 0 a", "read 0 0 a a", "read", "matter 2",
                    "matter", "matter 2 aaa a", "forget", "forget 0 0", "merge 0 a", "merge", "merge 0 a b a", "undo 1",
                    "undo undo", "redo 1", "table 0", "at", "at 0 0", "count 1", "fits yes", "lot 0", "tree 1",
                    "sure 0 1 2", "sure 0 1 2 3 4", "sure", "possible 0", "possible 0 0 0", "possible", "add_valley bb",
                    "what", "done", "refused", "copy", "first", "log", "kinds", "stands", "Add bb", "ADD bb", "FITS",
                    "fit", "fitss", "add 0", "drop a", "read a 0 a", "N", "CELL"):
            self.says(desk, row, "what")
        self.assertEqual(len(desk.book), 0)

    def test_values_that_are_no_strings(self):
        desk = Desk(table_b())
        values = any_values() + [["add", "bb"], ("fits",), [" "], {"fits": 1}, b"fits", table_b(), desk, desk.book]
        for value in values:
            self.says(desk, value, "what")
        self.assertEqual(state(desk.book), state(Book(table_b())))
        self.says(desk, "x" * 10000, "what")
        self.says(desk, " " * 10000 + "fits", "yes")
        self.says(desk, "add " + "b" * 10000, "refused")

    def test_by_name(self):
        desk = Desk(table=table_b())
        self.assertEqual(desk.say(row="count"), "0")

    def test_the_book_of_the_desk_led_beside_it(self):
        desk = Desk(table_b())
        book = desk.book
        self.assertIs(type(book), Book)
        book.add_valley((1, 1))
        self.says(desk, "count", "1")
        self.says(desk, "fits", "no")
        self.says(desk, "undo", "done")
        self.same(book.undone(), [("add_valley", (1, 1))])
        book.redo()
        self.says(desk, "table", "kinds 2 2 / aa / ab / ba / bb")
        self.says(desk, "drop 0", "done")
        self.assertEqual(len(book), 2)
        self.assertIs(desk.book, book)
        other = book.copy()
        other.undo()
        self.says(desk, "count", "2")
        self.assertFalse(Desk(table_b()).book == book)
        self.assertTrue(Desk(table_b()).book == Book(table_b()))

    def test_two_desks_of_one_table(self):
        table = table_b()
        one, other = Desk(table), Desk(table)
        one.say("drop 0")
        self.says(other, "count", "0")
        self.same(table, table_b())

    def test_bad_table(self):
        for value in any_values():
            if not isinstance(value, Table):
                self.refused(BadTable, Desk, value)


if __name__ == "__main__":
    unittest.main()

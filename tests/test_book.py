"""Point 100: a book of deeds with undo and redo."""

import random
import unittest

from oncefound.book import Book
from oncefound.cases import is_case_list
from oncefound.cells import possible
from oncefound.changing import kept, merged, picked, read, with_matter, with_row
from oncefound.chooser import some_fit
from oncefound.claims import sure_quartets
from oncefound.errors import AllUnread, BadColumn, BadCustom, BadKind, BadMatter, BadMoment, BadRow, BadTable, BadValley
from oncefound.errors import FoundError, NoFit, NothingDone, NothingUndone, TooMany
from oncefound.lots import failing_lots
from oncefound.pieces import fits
from oncefound.tables import Table, used
from oncefound.trees import normal
from samples import Case, any_values, crowded_table, random_history, random_tree, shape, table_a, wrong_values

SQUARE = Table((2, 2), ((0, 0), (0, 1), (1, 0), (1, 1)))


def table_b():
    return Table((2, 2), ((0, 0), (0, 1), (1, 0)))


def without_valley(table, valley):
    others = tuple(other for other in range(len(table.rows)) if other != valley)
    return picked(table, others)


def without_matter(table, matter):
    return kept(table, tuple(other for other in range(len(table.kinds)) if other != matter))


# What each deed makes of a Table.
MAKES = {
    "add_valley": with_row, "drop_valley": without_valley, "read": read,
    "add_matter": with_matter, "drop_matter": without_matter, "merge": merged,
}


def random_deed(dice, table):
    """A deed that is mostly one that can be done."""
    valley, matter = dice.randrange(len(table.rows)), dice.randrange(len(table.kinds))
    word = dice.choice(list(MAKES))
    if word == "add_valley":
        return (word, tuple(dice.choice((None, *range(kind))) for kind in table.kinds))
    if word == "drop_valley":
        return (word, valley)
    if word == "read":
        return (word, valley, matter, dice.choice((None, *range(table.kinds[matter]))))
    if word == "add_matter":
        return (word, 3, tuple(dice.choice((None, 0, 1, 2)) for _ in table.rows))
    if word == "drop_matter":
        return (word, matter)
    return (word, matter, dice.choice(used(table, matter)), dice.choice(used(table, matter)))


def do(book, deed):
    """The deed done by the method that has its name."""
    return getattr(book, deed[0])(*deed[1:])


def state(book):
    """All that can be read of a book, at every depth."""
    tables = [shape(book.at(count)) for count in range(len(book) + 1)]
    return (shape(book.first()), shape(book.table()), shape(book.log()), shape(book.undone()), len(book), tables)


class Model:
    """A list of Tables and deeds, kept beside a book."""

    def __init__(self, table):
        self.tables = [table]
        self.log = []
        self.undone = []

    def do(self, deed):
        self.tables.append(MAKES[deed[0]](self.tables[-1], *deed[1:]))
        self.log.append(deed)
        self.undone = []

    def undo(self):
        self.undone.insert(0, (self.log.pop(), self.tables.pop()))

    def redo(self):
        deed, table = self.undone.pop(0)
        self.log.append(deed)
        self.tables.append(table)


class Example(Case):
    def test_it(self):
        book = Book(table_b())
        self.assertIs(book.stands(), True)
        self.assertIs(book.broken(), None)
        book.add_valley((1, 1))
        self.assertIs(book.stands(), False)
        self.assertIs(book.paper()[0], False)
        self.same(book.failing(), (0, 1))
        self.same(book.broken(), 1)
        self.same(book.log(), [("add_valley", (1, 1))])
        book.drop_valley(0)
        self.same(book.table(), Table((2, 2), ((0, 1), (1, 0), (1, 1))))
        self.assertIs(book.stands(), True)
        self.same(book.broken(), 1)
        book.undo()
        self.same(book.undone(), [("drop_valley", 0)])
        book.merge(0, 0, 1)
        self.same(book.undone(), [])
        self.assertIs(book.stands(), True)


class Deeds(Case):
    def check(self, book, model):
        self.same(book.first(), model.tables[0])
        self.same(book.table(), model.tables[-1])
        self.same(book.log(), model.log)
        self.same(book.undone(), [deed for deed, _ in model.undone])
        self.assertEqual(len(book), len(model.log))
        for count, table in enumerate(model.tables):
            self.same(book.at(count), table)

    def test_against_a_list_of_tables(self):
        done = {}
        for seed in range(25):
            dice = random.Random(2800 + seed)
            start = crowded_table(dice, dice.randint(1, 6), dice.randint(1, 4), 4, 0.2)
            book, model = Book(start), Model(start)
            for _ in range(40):
                word = dice.choice(("deed", "deed", "deed", "undo", "redo"))
                if word == "undo" and model.log:
                    self.assertIs(book.undo(), None)
                    model.undo()
                elif word == "redo" and model.undone:
                    self.assertIs(book.redo(), None)
                    model.redo()
                elif word == "deed":
                    deed = random_deed(dice, book.table())
                    try:
                        model.do(deed)
                    except (FoundError, ValueError) as caught:
                        before = state(book)
                        error, told = type(caught), vars(caught)
                        if deed[0] == "drop_valley" and len(book.table().rows) == 1:
                            error, told = AllUnread, {"matter": 0}
                        elif deed[0] == "drop_matter" and len(book.table().kinds) == 1:
                            error, told = BadMatter, {}
                        self.refused(error, do, book, deed, told=told)
                        self.assertEqual(state(book), before)
                    else:
                        self.assertIs(do(book, deed), None)
                        done[deed[0]] = done.get(deed[0], 0) + 1
                self.check(book, model)
        self.assertTrue(len(done) == 6 and min(done.values()) > 10, done)

    def test_by_position_and_by_name(self):
        book = Book(table=table_b())
        book.add_valley(row=(None, 1))
        book.drop_valley(valley=1)
        book.read(valley=0, matter=1, custom=1)
        book.add_matter(kind=3, column=(2, None, 0))
        book.merge(matter=2, one=0, other=2)
        book.drop_matter(matter=0)
        self.same(book.table(), Table((2, 3), ((1, 0), (0, None), (1, 0))))
        self.same(book.at(count=1), Table((2, 2), ((0, 0), (0, 1), (1, 0), (None, 1))))
        self.same(book.possible(valley=0, matter=0), (0, 1))
        wanted = [("add_valley", (None, 1)), ("drop_valley", 1), ("read", 0, 1, 1), ("add_matter", 3, (2, None, 0)),
                  ("merge", 2, 0, 2), ("drop_matter", 0)]
        self.same(book.log(), wanted)

    def test_a_deed_that_leaves_the_table_as_it_was(self):
        book = Book(table_b())
        book.read(0, 0, 0)
        self.same(book.table(), table_b())
        self.same(book.log(), [("read", 0, 0, 0)])
        self.assertEqual(len(book), 1)
        book.undo()
        book.read(0, 0, 0)
        self.same(book.undone(), [])
        self.assertTrue(book != Book(table_b()))

    def test_undo_and_redo_at_both_ends(self):
        book = Book(table_b())
        self.refused(NothingDone, book.undo)
        self.refused(NothingUndone, book.redo)
        deeds = [("add_valley", (1, 1)), ("drop_valley", 0), ("read", 0, 0, None), ("add_matter", 6, (5, None, 0))]
        tables = [book.table()]
        for deed in deeds:
            do(book, deed)
            tables.append(book.table())
            self.refused(NothingUndone, book.redo)
        for count in (3, 2, 1, 0):
            book.undo()
            self.same(book.table(), tables[count])
            self.same(book.undone(), deeds[count:])
            self.same(book.log(), deeds[:count])
        before = state(book)
        self.refused(NothingDone, book.undo)
        self.assertEqual(state(book), before)
        for count in (1, 2, 3, 4):
            book.redo()
            self.same(book.table(), tables[count])
            self.same(book.undone(), deeds[count:])
        self.refused(NothingUndone, book.redo)
        self.same(book.log(), deeds)

    def test_a_deed_behind_undo_empties_what_is_undone(self):
        book = Book(table_b())
        book.add_valley((1, 1))
        book.add_valley((0, 1))
        book.undo()
        book.undo()
        book.redo()
        self.same(book.undone(), [("add_valley", (0, 1))])
        self.refused(BadRow, book.add_valley, (2, 2))
        self.same(book.undone(), [("add_valley", (0, 1))])
        book.drop_valley(3)
        self.same(book.undone(), [])
        self.refused(NothingUndone, book.redo)
        self.same(book.log(), [("add_valley", (1, 1)), ("drop_valley", 3)])

    def test_numbers_behind_a_dropped_one(self):
        book = Book(Table((2, 3, 4), ((0, 0, 0), (1, 1, 1), (0, 2, 3))))
        book.drop_valley(1)
        book.read(1, 2, 2)
        self.same(book.table(), Table((2, 3, 4), ((0, 0, 0), (0, 2, 2))))
        book.drop_matter(0)
        book.read(1, 1, 3)
        self.same(book.table(), Table((3, 4), ((0, 0), (2, 3))))
        self.refused(BadMatter, book.drop_matter, 2)
        self.refused(BadValley, book.drop_valley, 2)

    def test_at(self):
        book = Book(table_b())
        book.add_valley((1, 1))
        book.undo()
        self.refused(BadMoment, book.at, 1)
        book.redo()
        self.same(book.at(0), table_b())
        self.same(book.at(1), SQUARE)
        for value in wrong_values([0, 1]):
            self.refused(BadMoment, book.at, value)
        for value in (True, False, -1, 2, None, "0", (0,)):
            self.refused(BadMoment, book.at, value)

    def test_lists_are_new(self):
        book = Book(table_b())
        book.add_valley((1, 1))
        book.add_valley((1, 0))
        book.undo()
        before = state(book)
        book.log().clear()
        book.log().append(("drop_valley", 0))
        book.undone().clear()
        book.log()[0] = None
        self.assertEqual(state(book), before)
        book.redo()
        self.same(book.log(), [("add_valley", (1, 1)), ("add_valley", (1, 0))])


class Errors(Case):
    def test_bad_table(self):
        for value in any_values():
            if not isinstance(value, Table):
                self.refused(BadTable, Book, value)

    def kept_as_it_was(self, book, error, method, *values, told=None):
        before = state(book)
        self.refused(error, method, *values, told=told)
        self.assertEqual(state(book), before)

    def some_book(self):
        book = Book(table_b())
        book.add_valley((None, None))
        book.read(3, 1, 1)
        book.add_valley((1, 1))
        book.undo()
        return book

    def test_wrong_parameters_of_deeds(self):
        book = self.some_book()
        for value in any_values() + [(2, 0), (0,), [0, 0], (True, 0)]:
            if repr(value) not in [repr(row) for row in ((0, 1), (1, 0), (0, 0), (1, 1), (None, None))]:
                self.kept_as_it_was(book, BadRow, book.add_valley, value)
        for value in wrong_values([0, 1, 2, 3]):
            self.kept_as_it_was(book, BadValley, book.drop_valley, value)
            self.kept_as_it_was(book, BadValley, book.read, value, None, "x")
            self.kept_as_it_was(book, BadValley, book.possible, value, None)
        for value in wrong_values([0, 1]):
            self.kept_as_it_was(book, BadMatter, book.read, 1, value, "x")
            self.kept_as_it_was(book, BadMatter, book.drop_matter, value)
            self.kept_as_it_was(book, BadMatter, book.merge, value, None, "x")
            self.kept_as_it_was(book, BadMatter, book.possible, 1, value)
            self.kept_as_it_was(book, BadCustom, book.merge, 0, value, "x")
            self.kept_as_it_was(book, BadCustom, book.merge, 0, 0, value)
            if value is not None:
                self.kept_as_it_was(book, BadCustom, book.read, 1, 1, value)
        self.kept_as_it_was(book, BadCustom, book.merge, 0, 0, 0)
        for value in wrong_values([1, 2, 3, 4, 5, 6]):
            self.kept_as_it_was(book, BadKind, book.add_matter, value, "x")
        for value in any_values() + [(0, 1, 2, 1), [0, 1, 1, 0], (None,) * 4, (0, True, 0, 0), (0,) * 3]:
            self.kept_as_it_was(book, BadColumn, book.add_matter, 2, value)

    def test_all_unread(self):
        book = Book(Table((2, 2), ((0, None), (1, 1), (None, None))))
        self.kept_as_it_was(book, AllUnread, book.drop_valley, 1, told={"matter": 1})
        self.kept_as_it_was(book, AllUnread, book.read, 1, 1, None, told={"matter": 1})
        self.kept_as_it_was(book, AllUnread, book.possible, 1, 1, told={"matter": 1})
        book.drop_valley(2)
        self.kept_as_it_was(book, AllUnread, book.drop_valley, 1, told={"matter": 1})
        book.read(0, 1, 0)
        book.drop_valley(1)
        self.same(book.table(), Table((2, 2), ((0, 0),)))

    def test_the_only_valley_and_the_only_matter(self):
        book = Book(Table((2, 3), ((0, 2),)))
        for value in (1, -1, True, None, "0"):
            self.kept_as_it_was(book, BadValley, book.drop_valley, value)
        self.kept_as_it_was(book, AllUnread, book.drop_valley, 0, told={"matter": 0})
        book.drop_matter(0)
        for value in (0, 1, False, None):
            self.kept_as_it_was(book, BadMatter, book.drop_matter, value)
        self.same(book.table(), Table((3,), ((2,),)))

    def test_the_thirteenth_valley_and_the_ninth_matter(self):
        book = Book(Table((2,), ((0,),)))
        for _ in range(11):
            book.add_valley((1,))
        self.kept_as_it_was(book, BadRow, book.add_valley, (2,))
        self.kept_as_it_was(book, TooMany, book.add_valley, (1,), told={"most": 12})
        for _ in range(7):
            book.add_matter(1, (0,) * 12)
        self.kept_as_it_was(book, BadColumn, book.add_matter, 1, (0,) * 11)
        self.kept_as_it_was(book, TooMany, book.add_matter, 1, (0,) * 12, told={"most": 8})
        self.assertEqual(len(book), 18)

    def test_no_fit(self):
        book = Book(SQUARE)
        self.kept_as_it_was(book, NoFit, book.sure)
        book.add_valley((0, 0))
        self.kept_as_it_was(book, NoFit, book.possible, 4, 1)


class Asking(Case):
    def test_what_is_told_of_the_table_now(self):
        found = {True: 0, False: 0}
        for seed in range(40):
            dice = random.Random(2900 + seed)
            book = Book(crowded_table(dice, dice.randint(3, 7), dice.randint(2, 4), 3, 0.1))
            for _ in range(3):
                try:
                    do(book, random_deed(dice, book.table()))
                except ValueError:
                    continue
            table = book.table()
            stands = some_fit(table)
            self.assertIs(book.stands(), stands)
            paper = book.paper()
            self.assertIs(type(paper), tuple)
            self.assertIs(paper[0], stands)
            if stands:
                self.assertIs(fits(paper[1], table), True)
                self.same(paper[1], normal(paper[1]))
                self.assertIs(book.failing(), None)
                self.same(book.sure(), sure_quartets(table))
            else:
                self.assertIs(is_case_list(table, paper[1]), True)
                self.same(book.failing(), failing_lots(table)[0])
                self.refused(NoFit, book.sure)
            for valley in range(len(table.rows)):
                for matter in range(len(table.kinds)):
                    try:
                        wanted = possible(table, valley, matter)
                    except FoundError as caught:
                        self.refused(type(caught), book.possible, valley, matter, told=vars(caught))
                    else:
                        self.same(book.possible(valley, matter), wanted)
            fit = [some_fit(book.at(count)) for count in range(len(book) + 1)]
            self.same(book.broken(), fit.index(False) if False in fit else None)
            found[stands] += 1
        self.assertTrue(min(found.values()) > 5, found)

    def test_broken(self):
        book = Book(SQUARE)
        self.same(book.broken(), 0)
        book.drop_valley(0)
        self.same(book.broken(), 0)
        other = Book(table_b())
        other.read(0, 0, 0)
        self.assertIs(other.broken(), None)
        other.add_valley((1, 1))
        other.read(0, 0, None)
        self.assertIs(other.stands(), True)
        self.same(other.broken(), 2)
        other.undo()
        self.same(other.broken(), 2)
        other.undo()
        self.assertIs(other.broken(), None)

    def test_only_more_never_mends_and_only_less_never_breaks(self):
        broken = mended = 0
        for seed in range(40):
            dice = random.Random(3000 + seed)
            table, _ = random_history(dice, random_tree(dice, 9), 3, 3, 0.5)
            book = Book(table)
            for _ in range(8):
                now = book.table()
                free = [(v, m) for v, row in enumerate(now.rows) for m, cell in enumerate(row) if cell is None]
                try:
                    if free and dice.random() < 0.6:
                        valley, matter = dice.choice(free)
                        book.read(valley, matter, dice.randrange(now.kinds[matter]))
                    elif dice.random() < 0.5:
                        book.add_valley(tuple(dice.randrange(kind) for kind in now.kinds))
                    else:
                        book.add_matter(2, tuple(dice.randrange(2) for _ in now.rows))
                except TooMany:
                    continue
            fit = [some_fit(book.at(count)) for count in range(len(book) + 1)]
            self.assertEqual(fit, sorted(fit, reverse=True))
            broken += not fit[-1]
            # Found by halving as well.
            low, high = 0, len(fit)
            while low < high:
                half = (low + high) // 2
                low, high = (low, half) if not fit[half] else (half + 1, high)
            self.same(book.broken(), low if low < len(fit) else None)
            other = Book(book.table())
            for _ in range(12):
                now = other.table()
                valley, matter = dice.randrange(len(now.rows)), dice.randrange(len(now.kinds))
                deed = dice.choice((("drop_valley", valley), ("drop_matter", matter), ("read", valley, matter, None)))
                try:
                    do(other, deed)
                except FoundError:
                    continue
            fit = [some_fit(other.at(count)) for count in range(len(other) + 1)]
            self.assertEqual(fit, sorted(fit))
            mended += fit[-1] and not fit[0]
        self.assertTrue(broken > 8 and mended > 8, (broken, mended))


class Books(Case):
    def test_copies_are_led_on_apart(self):
        book = Book(table_b())
        book.add_valley((1, 1))
        book.add_valley((0, 1))
        book.undo()
        other = book.copy()
        self.assertIs(type(other), Book)
        self.assertTrue(book == other and not book != other)
        self.assertEqual(state(other), state(book))
        before = state(book)
        other.redo()
        self.assertTrue(book != other)
        self.assertEqual(state(book), before)
        other.undo()
        self.assertTrue(book == other)
        other.drop_matter(0)
        other.undo()
        self.assertEqual(state(book), before)
        third = book.copy()
        kept_now = state(third)
        book.undo()
        book.merge(0, 1, 0)
        self.assertEqual(state(third), kept_now)
        third.redo()
        third.undo()
        third.undo()
        self.same(third.undone(), [("add_valley", (1, 1)), ("add_valley", (0, 1))])

    def test_equal_and_unequal(self):
        def led(table, *deeds, undone=0):
            book = Book(table)
            for deed in deeds:
                do(book, deed)
            for _ in range(undone):
                book.undo()
            return book
        row, other_row = ("add_valley", (1, 1)), ("add_valley", (1, 0))
        same = ("read", 0, 0, 0)
        self.assertTrue(led(table_b(), row) == led(table_b(), row))
        self.assertTrue(led(table_b(), row, undone=1) == led(table_b(), row, undone=1))
        for one, other in (
            (led(table_b(), row), led(SQUARE)), (led(table_b()), led(table_b(), same)),
            (led(table_b(), row, ("drop_valley", 3)), led(table_b())),
            (led(table_b(), row, undone=1), led(table_b())),
            (led(table_b(), row, undone=1), led(table_b(), other_row, undone=1)),
            (led(table_b(), row), led(table_b(), row, other_row, undone=1)),
            (led(table_b(), row, other_row), led(table_b(), other_row, row)),
            (led(table_b(), row, other_row, undone=2), led(table_b(), other_row, row, undone=2)),
            # Equal Tables now, from other first ones.
            (led(Table((2, 2), ((0, 0), (0, 1), (1, 0), (0, 0))), ("drop_valley", 3)),
             led(Table((2, 2), ((0, 0), (0, 1), (1, 0), (1, 1))), ("drop_valley", 3))),
            (led(Table((2, 2), ((0, 0), (0, 1), (1, 0), (0, 0))), ("drop_valley", 3), undone=1),
             led(Table((2, 2), ((0, 0), (0, 1), (1, 0), (1, 1))), ("drop_valley", 3), undone=1)),
        ):
            self.assertFalse(one == other)
            self.assertFalse(other == one)
            self.assertTrue(one != other)
        for value in any_values() + [table_b(), table_a(), [], len]:
            self.assertFalse(Book(table_b()) == value)
            self.assertFalse(value == Book(table_b()))

    def test_a_book_without_deeds(self):
        book = Book(table_b())
        self.same(book.first(), table_b())
        self.same(book.table(), table_b())
        self.same(book.at(0), table_b())
        self.same((book.log(), book.undone(), len(book)), ([], [], 0))
        self.assertTrue(book == book.copy())

    def test_the_table_that_is_passed_stays(self):
        table = table_b()
        book = Book(table)
        book.read(0, 0, 1)
        book.drop_matter(1)
        self.same(table, table_b())
        self.same(book.first(), table_b())


if __name__ == "__main__":
    unittest.main()

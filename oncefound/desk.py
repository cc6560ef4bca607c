"""A desk: sayings that change a book, or ask what stands in it."""

from oncefound.book import Book
from oncefound.chooser import fitting_tree
from oncefound.claims import is_sure
from oncefound.errors import FoundError
from oncefound.texts import LETTERS, UNREAD, cell_of, letter_of, to_text, words_in
from oncefound.trees import partings

DIGITS = "0123456789"
MOST_DIGITS = 9
# What stands behind the first word of each saying.
FORMS = {
    "add": "CELLS", "drop": "N", "read": "N N CELL", "matter": "N CELLS", "forget": "N", "merge": "N CELL CELL",
    "undo": "", "redo": "", "table": "", "at": "N", "count": "", "fits": "", "lot": "", "tree": "",
    "sure": "N N N N", "possible": "N N",
}


def _is_saying(words):
    if len(words) == 0 or words[0] not in FORMS:
        return False
    forms = _forms_behind(words[0])
    if len(words) != len(forms) + 1:
        return False
    return all([_is_of_form(form, word) for form, word in zip(forms, words[1:])])


def _forms_behind(word):
    return FORMS[word].split()


def _is_of_form(form, word):
    if form == "N":
        return len(word) <= MOST_DIGITS and all([letter in DIGITS for letter in word])
    if form == "CELL" and len(word) > 1:
        return False
    return all([letter in LETTERS + UNREAD for letter in word])


def _value_of(form, word):
    if form == "N":
        return int(word)
    cells = tuple([cell_of(letter) for letter in word])
    return cells[0] if form == "CELL" else cells


def _table_text(table):
    return to_text(table).replace("\n", " / ")


def _table(book):
    return _table_text(book.table())


def _at(book, count):
    return _table_text(book.at(count))


def _count(book):
    return str(len(book))


def _yes_or_no(is_so):
    return "yes" if is_so else "no"


def _fits(book):
    return _yes_or_no(book.stands())


def _in_digits(numbers):
    return "+".join([str(number) for number in numbers])


def _lot(book):
    lot = book.failing()
    return "none" if lot is None else _in_digits(lot)


def _tree(book):
    tree = fitting_tree(book.table())
    if tree is None:
        return "none"
    return " ".join([_in_digits(lot) for lot in partings(tree)]) if len(tree.ties) > 0 else "bare"


def _sure(book, one, other, third, fourth):
    return _yes_or_no(is_sure(book.table(), ((one, other), (third, fourth))))


def _possible(book, valley, matter):
    return "".join([letter_of(custom) for custom in book.possible(valley, matter)])


def _add(book, row):
    book.add_valley(row)


def _drop(book, valley):
    book.drop_valley(valley)


def _read(book, valley, matter, custom):
    book.read(valley, matter, custom)


def _matter(book, kind, column):
    book.add_matter(kind, column)


def _forget(book, matter):
    book.drop_matter(matter)


def _merge(book, matter, one, other):
    book.merge(matter, one, other)


def _undo(book):
    book.undo()


def _redo(book):
    book.redo()


DEEDS = {
    "add": _add, "drop": _drop, "read": _read, "matter": _matter, "forget": _forget, "merge": _merge,
    "undo": _undo, "redo": _redo,
}
ASKING = {
    "table": _table, "at": _at, "count": _count, "fits": _fits, "lot": _lot, "tree": _tree,
    "sure": _sure, "possible": _possible,
}


def _answer(book, word, values):
    """The answer to a saying with this first word and these values."""
    if word in ASKING:
        asked = ASKING[word]
        return asked(book, *values)
    deed = DEEDS[word]
    deed(book, *values)
    return "done"


class Desk:
    """A Book that is led by sayings."""

    def __init__(self, table):
        self.book = Book(table)

    def say(self, row):
        """The answer to row, any value."""
        words = [word for _, word in words_in(row)] if isinstance(row, str) else []
        if not _is_saying(words):
            return "what"
        values = [_value_of(form, word) for form, word in zip(_forms_behind(words[0]), words[1:])]
        try:
            return _answer(self.book, words[0], values)
        except FoundError:
            return "refused"

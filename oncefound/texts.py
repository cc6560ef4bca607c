"""Tables as texts, and texts as tables."""

from oncefound.errors import BadText
from oncefound.tables import MOST_MATTERS, MOST_VALLEYS, Table, check_table, first_unread

LETTERS = "abcdef"
UNREAD = "?"
KINDS_WORD = "kinds"
KIND_DIGITS = "123456"


def letter_of(cell):
    """The character that stands for a cell: the letter of a custom, or ? for None."""
    return UNREAD if cell is None else LETTERS[cell]


def cell_of(letter):
    """The cell that letter_of writes as this character."""
    return None if letter == UNREAD else LETTERS.index(letter)


def words_in(line):
    """The longest runs of characters other than the space: pairs (column from 1, word)."""
    words = []
    column = 1
    for word in line.split(" "):
        if word != "":
            words.append((column, word))
        column += len(word) + 1
    return words


def to_text(table):
    """The text of table: the kinds line, then a line for each valley."""
    check_table(table)
    lines = [" ".join([KINDS_WORD] + [str(kind) for kind in table.kinds])]
    for row in table.rows:
        lines.append("".join([letter_of(cell) for cell in row]))
    return "\n".join(lines)


def from_text(text):
    """The Table that is written in text."""
    if not isinstance(text, str):
        raise BadText(0, 0)
    lines = _lines_of(text)
    if len(lines) == 0:
        raise BadText(0, 0)
    kinds = _kinds_in(lines[0])
    rows = []
    for line in lines[1:]:
        if len(rows) == MOST_VALLEYS:
            raise BadText(line[0], 0)
        rows.append(_row_in(line, kinds))
    if len(rows) == 0 or first_unread(rows) is not None:
        raise BadText(0, 0)
    return Table(kinds, tuple(rows))


def _lines_of(text):
    """The lines that are not passed over, without remarks: pairs (number from 1, line)."""
    lines = []
    for number, line in enumerate(text.split("\n"), start=1):
        seen = line.partition("#")[0]
        if seen.strip(" ") != "":
            lines.append((number, seen))
    return lines


def _kinds_in(numbered):
    number, line = numbered
    kinds = []
    for index, (column, word) in enumerate(words_in(line)):
        if not _is_kinds_word(index, word):
            raise BadText(number, column)
        if index > 0:
            kinds.append(int(word))
    if len(kinds) == 0:
        raise BadText(number, 0)
    return tuple(kinds)


def _is_kinds_word(index, word):
    if index == 0:
        return word == KINDS_WORD
    return index <= MOST_MATTERS and len(word) == 1 and word in KIND_DIGITS


def _row_in(numbered, kinds):
    number, line = numbered
    row = []
    for column, letter in enumerate(line, start=1):
        if letter != " ":
            if len(row) == len(kinds) or not _is_letter(kinds[len(row)], letter):
                raise BadText(number, column)
            row.append(cell_of(letter))
    if len(row) < len(kinds):
        raise BadText(number, 0)
    return tuple(row)


def _is_letter(kind, letter):
    return letter == UNREAD or letter in LETTERS[:kind]

"""The errors of the package, all directly below FoundError."""


class FoundError(ValueError):
    """What was passed cannot be used, or what was asked cannot be done."""


class AllUnread(FoundError):
    """No valley has read the matter, or none would have."""

    def __init__(self, matter):
        self.matter = matter


class BadArrows(FoundError):
    """Not a tuple with a custom tree for each matter."""


class BadClosing(FoundError):
    """Not a closing of the table."""


class BadColumn(FoundError):
    """Not a cell for each valley, one of them read."""


class BadCustom(FoundError):
    """Not a custom that is asked for here."""


class BadCustomTree(FoundError):
    """Not a custom tree of the matter."""


class BadCustoms(FoundError):
    """Not all customs of each matter, each once."""


class BadFilling(FoundError):
    """Not rows for the places of the tree as they are asked for here."""


class BadKind(FoundError):
    """Not a number from 1 to 6."""


class BadKinds(FoundError):
    """Not a tuple of one to eight numbers from 1 to 6."""


class BadMany(FoundError):
    """Not a number of valleys that is allowed here."""


class BadMatter(FoundError):
    """Not a matter of the table."""


class BadMatters(FoundError):
    """Not a tuple of matters as it is asked for here."""


class BadMoment(FoundError):
    """Not a number from 0 to the number of deeds done."""


class BadMore(FoundError):
    """Not an ascending tuple of legal ties outside of the web."""


class BadParting(FoundError):
    """Not a parting that the tree can get."""


class BadPartings(FoundError):
    """Not ascending partings no two of which cross."""


class BadPlace(FoundError):
    """Not a place of the tree."""


class BadQuartet(FoundError):
    """Not a quartet of the valleys."""


class BadQuartets(FoundError):
    """Not ascending quartets that keep the three rules."""


class BadRow(FoundError):
    """Not a row that is asked for here."""


class BadRows(FoundError):
    """Not one to twelve rows in which each matter is read."""


class BadSeats(FoundError):
    """Not seats for one to twelve valleys with each lost place in three ties."""


class BadTable(FoundError):
    """Not a Table."""


class BadText(FoundError):
    """Not the text of a table: the line and the column of what is wrong, from 1, or 0."""

    def __init__(self, line, column):
        self.line = line
        self.column = column


class BadTie(FoundError):
    """Not a tie of the tree."""


class BadTies(FoundError):
    """Not ascending ties that join all places."""


class BadTree(FoundError):
    """Not a Tree."""


class BadValley(FoundError):
    """Not a valley of the table."""


class BadValleys(FoundError):
    """Not a tuple of valleys as it is asked for here."""


class Clash(FoundError):
    """Two custom trees of the arrows do not agree."""


class Crosses(FoundError):
    """The parting of the tree that the new one crosses."""

    def __init__(self, parting):
        self.parting = parting


class NoFit(FoundError):
    """No tree fits, or this one does not."""


class NotThree(FoundError):
    """The matter has more than three used customs, or not just three."""

    def __init__(self, matter):
        self.matter = matter


class NotTwo(FoundError):
    """The matter has more than two used customs."""

    def __init__(self, matter):
        self.matter = matter


class NothingDone(FoundError):
    """There is no deed to undo."""


class NothingUndone(FoundError):
    """There is no deed to redo."""


class OtherMany(FoundError):
    """The two have not equally many valleys."""


class TooMany(FoundError):
    """There would be more than the most that is allowed."""

    def __init__(self, most):
        self.most = most


class Unlike(FoundError):
    """At the place two valleys are read unlike."""

    def __init__(self, place):
        self.place = place


class Unread(FoundError):
    """A cell is unread."""

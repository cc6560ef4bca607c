"""A live book of finds: a table, the deeds that change it, undo and redo."""

from oncefound.cases import case_list
from oncefound.cells import possible
from oncefound.changing import kept, merged, picked, read, with_matter, with_row
from oncefound.chooser import fitting_tree, some_fit
from oncefound.claims import sure_quartets
from oncefound.errors import AllUnread, BadMatter, BadMoment, NothingDone, NothingUndone
from oncefound.lots import failing_lots
from oncefound.tables import check_matter, check_table, check_valley
from oncefound.values import is_between


class Book:
    """A first Table, the deeds done and the deeds undone."""

    def __init__(self, table):
        check_table(table)
        self.start = table
        # Each deed stands in a pair with the Table that it made; the deed undone last stands last.
        self.done = []
        self.gone = []

    def __len__(self):
        return len(self.done)

    def __eq__(self, other):
        return (isinstance(other, Book) and self.start == other.start
                and self.done == other.done and self.gone == other.gone)

    def copy(self):
        """A Book equal to this one, which goes on by itself."""
        other = Book(self.start)
        other.done = list(self.done)
        other.gone = list(self.gone)
        return other

    def _note(self, deed, table):
        """Put down a deed that has made this Table."""
        self.done.append((deed, table))
        self.gone = []

    def add_valley(self, row):
        """Put this row behind all others."""
        self._note(("add_valley", row), with_row(self.table(), row))

    def drop_valley(self, valley):
        """Take a valley away."""
        table = self.table()
        check_valley(table, valley)
        others = tuple([other for other in range(len(table.rows)) if other != valley])
        if others == ():
            raise AllUnread(0)
        self._note(("drop_valley", valley), picked(table, others))

    def read(self, valley, matter, custom):
        """Let a cell be custom, or unread if custom is None."""
        self._note(("read", valley, matter, custom), read(self.table(), valley, matter, custom))

    def add_matter(self, kind, column):
        """Put a matter of this kind, with these cells, behind all others."""
        self._note(("add_matter", kind, column), with_matter(self.table(), kind, column))

    def drop_matter(self, matter):
        """Take a matter away."""
        table = self.table()
        check_matter(table, matter)
        others = tuple([other for other in range(len(table.kinds)) if other != matter])
        if others == ():
            raise BadMatter("there is no other matter")
        self._note(("drop_matter", matter), kept(table, others))

    def merge(self, matter, one, other):
        """Let all valleys with the custom other have the custom one instead."""
        self._note(("merge", matter, one, other), merged(self.table(), matter, one, other))

    def undo(self):
        """Undo the last deed."""
        if len(self.done) == 0:
            raise NothingDone("no deed is done")
        self.gone.append(self.done.pop())

    def redo(self):
        """Do the deed again that was undone last."""
        if len(self.gone) == 0:
            raise NothingUndone("no deed is undone")
        self.done.append(self.gone.pop())

    def first(self):
        """The first Table."""
        return self.start

    def table(self):
        """The Table now."""
        return self.at(len(self.done))

    def at(self, count):
        """The Table behind the first count deeds."""
        if not is_between(count, 0, len(self.done)):
            raise BadMoment("not a number of deeds from 0 to all that are done")
        return self.start if count == 0 else self.done[count - 1][1]

    def log(self):
        """The list of the deeds done, the earliest one first."""
        return [deed for deed, _ in self.done]

    def undone(self):
        """The list of the deeds undone, the one first that redo does first."""
        return [deed for deed, _ in self.gone[::-1]]

    def stands(self):
        """Whether some tree fits the Table now."""
        return some_fit(self.table())

    def paper(self):
        """(True, a normal tree that fits the Table now), or (False, a case list of it)."""
        tree = fitting_tree(self.table())
        if tree is None:
            return (False, case_list(self.table()))
        return (True, tree)

    def failing(self):
        """The first of the failing lots of the Table now; None if some tree fits."""
        return None if self.stands() else failing_lots(self.table())[0]

    def sure(self):
        """The sure quartets of the Table now."""
        return sure_quartets(self.table())

    def possible(self, valley, matter):
        """The customs that are possible for a cell of the Table now."""
        return possible(self.table(), valley, matter)

    def broken(self):
        """The least count for which no tree fits the Table behind so many deeds; None if there is none."""
        for count in range(len(self.done) + 1):
            if not some_fit(self.at(count)):
                return count
        return None

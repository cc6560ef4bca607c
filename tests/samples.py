"""What several tests use: tables and trees, values of any kind, and a test case with a check of errors."""

import itertools
import random
import unittest

from oncefound.book import Book
from oncefound.desk import Desk
from oncefound.errors import BadTable
from oncefound.tables import Table
from oncefound.trees import Tree


def table_a():
    """The table A of point 10."""
    return Table((2, 3), ((0, 0), (1, None), (0, 0), (1, 2)))


def tree_t():
    """The tree of the example of point 20; its place 3 is lost."""
    return Tree(((0, 1), (0, 3), (2, 3), (3, 4)), (0, 1, 2, 4))


def nested(wrap, levels=80):
    value = 0
    for _ in range(levels):
        value = wrap(value)
    return value


def any_values():
    """Values of all kinds that point 3 allows, made anew."""
    return [
        None, True, False, 0, 1, 2, 3, 4, 5, 6, 7, 8, 9, 12, 13, -1, 999999999, -999999999,
        "", "0", "1", "a", "None", "kinds 1\na",
        [], [0], [1], [0, 1], [[0]], [(0, 1)], [None], [True], ["a", [1, {"b": []}]],
        (), (0,), (1,), (True,), (False,), (0, 1), (False, True), (0, True), (1, 0), (0, 0), (1, 1),
        (1, 2), (2, 3), (3, 2), (None,), (None, None), ("a",), ("0", "1"), (-1,), (0, 999999999),
        ((),), ((0,),), ((1,),), ((True,),), ((0, 1),), ((False, True),), ([0],), ([0, 1],), [[0, 1]],
        (((0,),),), ({},), ((0, 1), [1, 2]), ((1, 2), (0, 1)),
        {}, {0: 0}, {0: (0,)}, {True: False}, {"a": [1, {"b": (2,)}]}, {0: 1, 1: 0},
        nested(lambda value: [value]), nested(lambda value: (value,)), nested(lambda value: {1: value}),
        table_a(), tree_t(), [table_a()], (tree_t(),), {"t": table_a()}, (0, table_a()), BadTable("x"),
        Book(table_a()), Desk(table_a()), [Book(table_a())],
    ]


def wrong_values(right):
    """All of any_values but those that are written as one of these right ones."""
    written = {repr(value) for value in right}
    return [value for value in any_values() if repr(value) not in written]


def random_table(dice, matters=None, valleys=None, unread=0.3):
    kinds = tuple(dice.randint(1, 6) for _ in range(matters or dice.randint(1, 8)))
    many = valleys or dice.randint(1, 12)
    rows = [[None if dice.random() < unread else dice.randrange(kind) for kind in kinds] for _ in range(many)]
    for matter, kind in enumerate(kinds):
        if all(row[matter] is None for row in rows):
            rows[dice.randrange(many)][matter] = dice.randrange(kind)
    return Table(kinds, tuple(tuple(row) for row in rows))


def random_tables(seed, times=120):
    dice = random.Random(seed)
    return [(dice, random_table(dice)) for _ in range(times)]


def random_tree(dice, most_places=22):
    """Any tree, its places numbered in any way: grown from random ties, lost places seated where needed."""
    while True:
        many = dice.randint(1, most_places)
        names = list(range(many))
        dice.shuffle(names)
        reach = dice.choice((2, many))
        ties = []
        for place in range(1, many):
            near = dice.randrange(max(0, place - reach), place)
            ties.append(tuple(sorted((names[place], names[near]))))
        degrees = [sum(place in tie for tie in ties) for place in range(many)]
        seats = [place for place in range(many) if degrees[place] < 3]
        seats += [place for place in range(many) if degrees[place] >= 3 and dice.random() < 0.3]
        if len(seats) <= 12:
            seats += [dice.randrange(many) for _ in range(dice.randint(0, 12 - len(seats)))]
            dice.shuffle(seats)
            return Tree(tuple(sorted(ties)), tuple(seats))


def random_trees(seed, times=150):
    dice = random.Random(seed)
    return [(dice, random_tree(dice)) for _ in range(times)]


def random_history(dice, tree, most_matters=4, most_kind=6, unread=0.3):
    """A table that tree fits, and the rows of the places that it was read from."""
    columns = [random_column(dice, tree, dice.randint(1, most_kind)) for _ in range(dice.randint(1, most_matters))]
    rows = tuple(zip(*columns))
    seen = [[None if dice.random() < unread else cell for cell in rows[seat]] for seat in tree.seats]
    for matter in range(len(columns)):
        if all(row[matter] is None for row in seen):
            valley = dice.randrange(len(seen))
            seen[valley][matter] = columns[matter][tree.seats[valley]]
    kinds = tuple(max(column) + 1 for column in columns)
    return Table(kinds, tuple(map(tuple, seen))), rows


def random_column(dice, tree, kind):
    """A custom for each place: some ties are cut, and each part of the tree gets a custom of its own."""
    cut = dice.sample(tree.ties, min(dice.randint(0, kind - 1), len(tree.ties)))
    part = list(range(len(tree.ties) + 1))
    for one, other in tree.ties:
        if (one, other) not in cut:
            part = [part[one] if number == part[other] else number for number in part]
    customs = dict(zip(sorted(set(part)), dice.sample(range(kind), len(set(part)))))
    return tuple(customs[number] for number in part)


class Case(unittest.TestCase):
    def refused(self, error, function, *values, told=None, **named):
        """The call raises just this error, with these attributes."""
        try:
            result = function(*values, **named)
        except Exception as caught:
            self.assertIs(type(caught), error, (function, values, named))
            self.assertEqual(vars(caught), told or {}, (function, values, named))
        else:
            self.fail(f"{function} of {values} {named} gave {result!r} and not {error}")

    def same(self, one, other):
        """Equal, and alike in kind at every depth: True is not 1, a list is not a tuple."""
        self.assertEqual(one, other)
        self.assertEqual(shape(one), shape(other))


def shape(value):
    if isinstance(value, (tuple, list)):
        return (type(value), [shape(item) for item in value])
    if isinstance(value, Table):
        return (Table, shape(value.kinds), shape(value.rows))
    if isinstance(value, Tree):
        return (Tree, shape(value.ties), shape(value.seats))
    if isinstance(value, Book):
        return (Book, shape(value.first()), shape(value.log()), shape(value.undone()))
    if isinstance(value, Desk):
        return (Desk, shape(value.book))
    return (type(value), repr(value))


def in_lists(value):
    """The value with a list in the place of one tuple, each place in turn."""
    if isinstance(value, tuple):
        yield list(value)
        for index, item in enumerate(value):
            for changed in in_lists(item):
                yield value[:index] + (changed,) + value[index + 1:]


def in_truths(value):
    """The value with True in the place of one 1, or False in that of one 0, each place in turn."""
    if isinstance(value, tuple):
        for index, item in enumerate(value):
            for changed in in_truths(item):
                yield value[:index] + (changed,) + value[index + 1:]
    elif value in (0, 1) and isinstance(value, int):
        yield bool(value)


def cut_short(value):
    """The value without one item of one tuple, or with one item twice, each place in turn."""
    if isinstance(value, tuple):
        for index, item in enumerate(value):
            yield value[:index] + value[index + 1:]
            yield value[:index] + (item,) + value[index:]
            for changed in cut_short(item):
                yield value[:index] + (changed,) + value[index + 1:]


def with_strangers(value):
    """The value with something of another kind in the place of one part, each place in turn."""
    for stranger in (None, "0", "clash", -1, 99, (), [], {}, {0: 0}, (0,), table_a(), tree_t()):
        yield stranger
    if isinstance(value, tuple):
        for index, item in enumerate(value):
            for changed in with_strangers(item):
                yield value[:index] + (changed,) + value[index + 1:]


def spoiled(value):
    """Values written otherwise than value, in one place each: none of them may pass for it."""
    changed = itertools.chain(in_lists(value), in_truths(value), cut_short(value), with_strangers(value))
    return [other for other in changed if repr(other) != repr(value)]


def crowded_table(dice, valleys, matters, most_kind=6, unread=0.0):
    """A table in which the customs of a matter have mostly two valleys or more: often no tree fits."""
    columns = []
    for _ in range(matters):
        kind = dice.randint(1 if valleys < 4 else 2, max(1, min(most_kind, (valleys + 1) // 2)))
        column = dice.sample([valley % kind for valley in range(valleys)], valleys)
        sparse = [None if dice.random() < unread else custom for custom in column]
        columns.append(column if set(sparse) == {None} else sparse)
    kinds = tuple(max(cell for cell in column if cell is not None) + 1 for column in columns)
    return Table(kinds, tuple(zip(*columns)))


def crowded_tables(seed, times, valleys, matters, most_kind=6, unread=(0.0,)):
    """So many of them, with numbers of valleys and matters and shares of unread cells from these."""
    dice = random.Random(seed)
    for _ in range(times):
        yield dice, crowded_table(dice, dice.choice(valleys), dice.choice(matters), most_kind, dice.choice(unread))

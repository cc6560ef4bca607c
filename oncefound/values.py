"""What values of any kind are asked before they are used: shared by all files of the package."""


def is_number(thing):
    """Whether thing is an integer, True and False not counted."""
    return isinstance(thing, int) and not isinstance(thing, bool)


def is_between(thing, low, high):
    """Whether thing is a number from low to high."""
    return is_number(thing) and low <= thing <= high


def is_rising(things):
    """Whether each of things, which can be compared, is greater than the one ahead of it."""
    return all([lesser < greater for lesser, greater in zip(things, things[1:])])


def is_lot(thing, low, high):
    """Whether thing is an ascending tuple of one or more different numbers from low to high."""
    if not isinstance(thing, tuple) or len(thing) == 0:
        return False
    return all([is_between(number, low, high) for number in thing]) and is_rising(thing)


def are_different(thing, many):
    """Whether thing is a tuple of one or more different numbers from 0 to many - 1, in any sequence."""
    if not isinstance(thing, tuple) or len(thing) == 0:
        return False
    return all([is_between(number, 0, many - 1) for number in thing]) and len(set(thing)) == len(thing)


def is_shuffle(thing, many):
    """Whether thing is a tuple of all numbers from 0 to many - 1, each once."""
    return are_different(thing, many) and len(thing) == many


def number_of(places):
    """The number whose bits are at these different places."""
    return sum([1 << place for place in places])


def bits(number):
    """The ascending list of the places of the bits of number, which is not below 0."""
    places = []
    while number > 0:
        least = number & -number
        places.append(least.bit_length() - 1)
        number = number - least
    return places

"""Digit rows, told by their numbers in the order of the tuples, and the names that they have digits for."""

from bitcounts.errors import TooManyNames
from bitcounts.limits import NAMES


def digit_row(index, size):
    """The digits of the digit row with this number, for so many names."""
    return tuple([index >> (size - 1 - at) & 1 for at in range(size)])


def digit_index(digits):
    index = 0
    for digit in digits:
        index = 2 * index + digit
    return index


def names_told(sides):
    """For how many names there is a side for each digit row."""
    return len(sides).bit_length() - 1


def digit_indexes(numbers):
    """The digit rows of the tuple of these numbers, from the lowest place on."""
    indexes = []
    while any(numbers):
        indexes.append(digit_index([number & 1 for number in numbers]))
        numbers = [number >> 1 for number in numbers]
    return indexes


def united(names, others):
    """The names of both, ascending."""
    both = [*names, *[name for name in others if name not in names]]
    if len(both) > NAMES:
        raise TooManyNames()
    return tuple(sorted([str(name) for name in both]))


def own_rows(own, names):
    """For each digit row of these names the number of the row of the digits of its own names among them."""
    if own == names:
        return list(range(1 << len(names)))
    rows = [0]
    for name in names:
        if name in own:
            rows = [2 * row + digit for row in rows for digit in (0, 1)]
        else:
            rows = [row for row in rows for _ in (0, 1)]
    return rows


def matters(sides, size, place):
    """Whether the sides of digit rows that differ at this place alone differ somewhere."""
    bit = 1 << (size - 1 - place)
    return any([sides[index] != sides[index ^ bit] for index in range(len(sides))])


def places_that_matter(sides):
    size = names_told(sides)
    return [place for place in range(size) if matters(sides, size, place)]


def rows_of_places(size, places):
    """The numbers of the digit rows, for so many names, that have 0 at all other places."""
    rows = [digit_row(index, size) for index in range(1 << size)]
    return [index for index, row in enumerate(rows) if sum(row) == sum([row[place] for place in places])]

"""What the checker takes for integers, fractions, names, numbers of names, plain rules and machines.

The checker stands by itself: it uses nothing of what makes claims and certificates.
"""

from bitcounts.limits import CLASSES, NAMES
from math import gcd

LETTERS = "abcdefghijklmnopqrstuvwxyz"
LONGEST_NAME = 8
MOST_LINES = 100


def is_integer(value):
    return isinstance(value, int) and not isinstance(value, bool)


def is_tuple_of(value, many):
    return isinstance(value, tuple) and len(value) == many


def is_number(value):
    return is_integer(value) and value >= 0


def is_state(value, many):
    return is_number(value) and value < many


def is_fraction(value):
    if not isinstance(value, tuple) or len(value) != 2:
        return False
    top, bottom = value
    if not isinstance(top, int) or not isinstance(bottom, int) or isinstance(top, bool) or isinstance(bottom, bool):
        return False
    return bottom == 1 or bottom > 1 and gcd(top, bottom) == 1


def is_row(value, many):
    """Whether it is a tuple of so many fractions."""
    return is_tuple_of(value, many) and all([is_fraction(item) for item in value])


def is_side(value, many):
    return is_tuple_of(value, many) and all([is_row(row, many) for row in value])


def is_name(value):
    if not isinstance(value, str) or not 1 <= len(value) <= LONGEST_NAME:
        return False
    return all([letter in LETTERS for letter in value])


def is_row_of_names(value):
    if not isinstance(value, tuple) or len(value) > NAMES or not all([is_name(name) for name in value]):
        return False
    return all([value[at] < value[at + 1] for at in range(len(value) - 1)])


def are_numbers_of(pairs, names):
    """Whether it is a tuple of pairs of just these names and numbers."""
    if not is_tuple_of(pairs, len(names)) or not all([is_tuple_of(pair, 2) for pair in pairs]):
        return False
    return all([isinstance(pair[0], str) and pair[0] == name and is_number(pair[1])
                for pair, name in zip(pairs, names)])


def starts_again(rows, firsts):
    """Whether the fractions of the rows make of these integers the same ones."""
    for row, first in zip(rows, firsts):
        bottom = 1
        total = 0
        for (top, below), number in zip(row, firsts):
            total, bottom = total * below + top * number * bottom, bottom * below
        if total != first * bottom:
            return False
    return True


def is_plain_rule(value):
    if not is_tuple_of(value, 4):
        return False
    names, sides, firsts, told = value
    if not is_row_of_names(names) or not isinstance(firsts, tuple) or len(firsts) > MOST_LINES:
        return False
    many = len(firsts)
    if not all([is_integer(first) for first in firsts]) or not is_row(told, many):
        return False
    if not is_tuple_of(sides, 1 << len(names)) or not all([is_side(side, many) for side in sides]):
        return False
    return starts_again(sides[0], firsts)


def are_ways(value, many, rows):
    """Whether it tells for each of so many states those that follow by each of so many digit rows."""
    if not all([is_tuple_of(way, rows) for way in value]):
        return False
    return all([is_state(state, many) for way in value for state in way])


def is_machine(value):
    if not is_tuple_of(value, 3):
        return False
    names, ways, marks = value
    if not is_row_of_names(names) or not isinstance(ways, tuple) or not 1 <= len(ways) <= CLASSES:
        return False
    if not are_ways(ways, len(ways), 1 << len(names)) or not is_tuple_of(marks, len(ways)):
        return False
    if not all([isinstance(mark, bool) for mark in marks]):
        return False
    return all([marks[way[0]] == mark for way, mark in zip(ways, marks)])


def names_of_all(groups):
    """The names of all these rows of names, ascending, None if there are more than three."""
    found = {}
    for names in groups:
        for name in names:
            found[name] = True
    return tuple(sorted([str(name) for name in found])) if len(found) <= NAMES else None


def digits_of(index, size):
    """The digit row with this number, in the order of the tuples."""
    return tuple([index >> (size - 1 - at) & 1 for at in range(size)])


def row_number(digits):
    number = 0
    for digit in digits:
        number = 2 * number + digit
    return number


def rows_of_own(own, names):
    """For each digit row of these names the number of the row of the digits of its own names among them."""
    places = [place for name in own for place, other in enumerate(names) if other == name]
    rows = [digits_of(index, len(names)) for index in range(1 << len(names))]
    return [row_number([row[place] for place in places]) for row in rows]


def digit_rows_of(numbers):
    """The numbers of the digit rows of the tuple, from the lowest place on."""
    length = max([int(number) for number in numbers], default=0).bit_length()
    return [row_number([number >> place & 1 for number in numbers]) for place in range(length)]

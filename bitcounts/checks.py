"""What counts as an integer, a name, a number, and the values of variables that callers pass."""

from bitcounts.errors import InvalidName, InvalidNumber, InvalidValues, WrongNames

LETTERS = "abcdefghijklmnopqrstuvwxyz"
LONGEST_NAME = 8
GREATEST = 10 ** 50 * 10 ** 50


def is_integer(value):
    return isinstance(value, int) and not isinstance(value, bool)


def is_integer_within(value, low, high):
    return is_integer(value) and low <= value <= high


def is_name(value):
    if not isinstance(value, str) or not 1 <= len(value) <= LONGEST_NAME:
        return False
    return all([letter in LETTERS for letter in value])


def is_number(value):
    return is_integer_within(value, 0, GREATEST)


def check_name(name):
    if not is_name(name):
        raise InvalidName(name)


def check_within(number, low, high):
    if not is_integer_within(number, low, high):
        raise InvalidNumber(number)


def is_pair(value):
    return isinstance(value, tuple) and len(value) == 2 and is_name(value[0]) and is_number(value[1])


def check_pairs(pairs):
    if not isinstance(pairs, tuple):
        raise InvalidValues(None)
    before = ""
    for index, pair in enumerate(pairs):
        if not is_pair(pair) or pair[0] <= before:
            raise InvalidValues(index)
        before = pair[0]


def check_numbers(numbers):
    """All keywords are looked at before all values, both in the order of the keywords."""
    names = sorted([str(name) for name in numbers])
    for name in names:
        check_name(name)
    for name in names:
        check_within(numbers[name], 0, GREATEST)


def picked(names, numbers):
    """The numbers of these names, which the dict must have."""
    for name in names:
        if name not in numbers:
            raise WrongNames(name)
    return [numbers[name] for name in names]


def numbers_by_pairs(names, pairs):
    """What a method `at` is passed, as the list of the numbers of these names."""
    check_pairs(pairs)
    return picked(names, {name: number for name, number in pairs})


def numbers_by_name(names, numbers):
    """What a method `of` is passed, as the list of the numbers of these names."""
    check_numbers(numbers)
    return picked(names, numbers)

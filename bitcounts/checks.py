"""What counts as an integer, a name, a number, and the values of variables that callers pass."""

from bitcounts.errors import InvalidName, InvalidNumber, InvalidValues, WrongNames

LETTERS = "abcdefghijklmnopqrstuvwxyz"
LONGEST_NAME = 8
GREATEST = 10 ** 50 * 10 ** 50


def is_integer(value):
    return isinstance(value, int) and not isinstance(value, bool)


def is_integer_within(value, low, high):
    return is_integer(value) and low <= value <= high


def is_name(value):
    if not isinstance(value, str) or not 1 <= len(value) <= LONGEST_NAME:
        return False
    return value.isascii() and value.isalpha() and value.islower()


def is_number(value):
    return isinstance(value, int) and not isinstance(value, bool) and 0 <= value <= GREATEST


def check_name(name):
    if not is_name(name):
        raise InvalidName(name)


def check_within(number, low, high):
    if not is_integer_within(number, low, high):
        raise InvalidNumber(number)


def is_pair(value):
    return isinstance(value, tuple) and len(value) == 2 and is_name(value[0]) and is_number(value[1])


def check_pairs(pairs):
    if not isinstance(pairs, tuple):
        raise InvalidValues(None)
    before = ""
    for index, pair in enumerate(pairs):
        if not is_pair(pair) or pair[0] <= before:
            raise InvalidValues(index)
        before = pair[0]


def check_numbers(numbers):
    """All keywords are looked at before all values, both in the order of the keywords."""
    names = sorted([str(name) for name in numbers])
    for name in names:
        check_name(name)
    for name in names:
        check_within(numbers[name], 0, GREATEST)


def check_names(names, numbers):
    """The dict must have all these names."""
    for name in names:
        if name not in numbers:
            raise WrongNames(name)


def filled(whole, names, numbers):
    """The numbers of all these names, by name; those on which nothing hangs may be missing, and are 0 then.

    `whole` is the formula, word or test, whose own names are looked at only if a name is missing.
    """
    if all([name in numbers for name in names]):
        return numbers
    check_names(whole.names, numbers)
    return {name: numbers.get(name, 0) for name in names}


def numbers_by_pairs(whole, names, pairs):
    """What a method `at` is passed, by name."""
    check_pairs(pairs)
    return filled(whole, names, {name: number for name, number in pairs})


def numbers_by_name(whole, names, numbers):
    """What a method `of` is passed, by name."""
    check_numbers(numbers)
    return filled(whole, names, numbers)

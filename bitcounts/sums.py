"""The least rules of formulas that are added up over all numbers of one of their variables."""

from bitcounts.digit_rows import digit_index, digit_row
from bitcounts.rows import applied, row_sum
from bitcounts.rules import constant, minimal_rule, told_first


def both_rows(size, place, index):
    """The numbers of the digit rows, for so many names, that have the digits of this one at the other places."""
    digits = digit_row(index, size - 1)
    return [digit_index([*digits[:place], digit, *digits[place:]]) for digit in (0, 1)]


def settled(side, starts):
    """The sums of the lines where all other variables are 0.

    What is added up for all numbers with ever more digits does not change any more at last: all lines are parts
    of a formula that is not 0 at finitely many numbers only.
    """
    sums, more = starts, tuple(applied(side, starts))
    while sums != more:
        sums, more = more, tuple(applied(side, more))
    return sums


def summed(rule, name):
    """The least rule of what is added up over all numbers of the variable, at all but finitely many of which it is 0.

    If nothing hangs on the variable, it is 0 everywhere.
    """
    places = [place for place, other in enumerate(rule.variables) if other == name]
    if not places:
        return constant(0)
    size = len(rule.variables)
    sides = []
    for index in range(1 << size - 1):
        even, odd = both_rows(size, places[0], index)
        sides.append(tuple([row_sum(row, beside) for row, beside in zip(rule.sides[even], rule.sides[odd])]))
    starts = settled(sides[0], rule.starts)
    names = tuple([other for other in rule.variables if other != name])
    return minimal_rule(names, sides, starts, told_first(starts))

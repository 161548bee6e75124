"""The least rules of formulas that are added up over all numbers of one of their variables."""

from bitcounts.digit_rows import digit_index, digit_row
from bitcounts.limits import RANK
from bitcounts.rows import applied, row_sum
from bitcounts.rules import check_product, constant, minimal_rule, multiplied, product_lines, told_first


def both_rows(size, place, index):
    """The numbers of the digit rows, for so many names, that have the digits of this one at the other places."""
    digits = digit_row(index, size - 1)
    return [digit_index([*digits[:place], digit, *digits[place:]]) for digit in (0, 1)]


def settled(side, starts):
    """The sums of the lines where all other variables are 0.

    What is added up for all numbers with ever more digits does not change any more at last: all lines are parts
    of a formula that is not 0 at finitely many numbers only.
    """
    sums, more = starts, tuple(applied(side, starts))
    while sums != more:
        sums, more = more, tuple(applied(side, more))
    return sums


def summed(rule, other, name):
    """The least rule of the product of both, added up over all numbers of the variable.

    It is 0 at all but finitely many of them. If nothing hangs on the variable, it is 0 everywhere. TooMany is raised
    if the rank of the product is too great.
    """
    check_product(rule, other)
    if len(rule.starts) * len(other.starts) > RANK:
        made = multiplied(rule, other)
        return summed_lines(made.variables, made.sides, made.starts, name)
    names, sides, starts = product_lines(rule, other)
    return summed_lines(names, sides, starts, name)


def summed_lines(names, sides, starts, name):
    """The least rule of the first line added up over all numbers of the variable."""
    places = [place for place, other in enumerate(names) if other == name]
    if not places or not starts:
        return constant(0)
    size = len(names)
    added = []
    for index in range(1 << size - 1):
        even, odd = both_rows(size, places[0], index)
        added.append(tuple([row_sum(row, beside) for row, beside in zip(sides[even], sides[odd])]))
    left = tuple([other for other in names if other != name])
    return minimal_rule(left, added, settled(added[0], starts), told_first(starts))

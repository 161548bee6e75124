"""Where formulas part, which of their multiples add up to 0, and the new tuples for them."""

from bitcounts.errors import InvalidValues
from bitcounts.ties import least_difference, relations_together, tuples_together
from bitcounts.words import formula

MOST_FORMULAS = 6


def checked_formulas(formulas):
    """What is passed for one to six formulas."""
    if not 1 <= len(formulas) <= MOST_FORMULAS:
        raise InvalidValues(None)
    return [formula(value) for value in formulas]


def parting(f, g):
    """The least tuple at which they differ, as pairs for the names of both; None if they are the same."""
    one, other = formula(f), formula(g)
    return least_difference(one, other)


def relations(*formulas):
    """For each formula that is a combination of those before it, the integers by which they add up to 0."""
    return relations_together(checked_formulas(formulas))


def new_tuples(*formulas):
    """The new tuples for these formulas, in their order."""
    return tuples_together([one.rule for one in checked_formulas(formulas)])

"""Formulas added up, and tests counted, over the numbers of a variable below a word."""

from bitcounts.checks import check_name
from bitcounts.conditions import Test
from bitcounts.counting import one_if
from bitcounts.digit_rows import united
from bitcounts.errors import NotATest, WrongNames
from bitcounts.formulas import Formula
from bitcounts.piles import pile_of_rule
from bitcounts.sums import summed
from bitcounts.words import checked_word, formula, var


def checked_bound(name, below):
    """What is passed for the end of a range of the variable, as a word."""
    check_name(name)
    bound = checked_word(below)
    if name in bound.names:
        raise WrongNames(name)
    return bound


def range_below(names, name, bound):
    """The formula that is 1 where the variable is less than the bound, beside a formula or test with these names."""
    united(united(names, bound.names), (name,))
    return one_if(var(name) < bound)


def added_up(one, within, name):
    """The first formula added up over all numbers of the variable where the second one is 1, and not 0."""
    return Formula(pile_of_rule(summed(one.rule, within.rule, name), None))


def total(f, name, below):
    """f added up over all numbers of the variable less than the value of the word `below`."""
    one = formula(f)
    bound = checked_bound(name, below)
    return added_up(one, range_below(one.names, name, bound), name)


def count(t, name, below):
    """How many numbers of the variable less than the value of the word `below` keep the test."""
    if not isinstance(t, Test):
        raise NotATest(t)
    bound = checked_bound(name, below)
    within = range_below(t.names, name, bound)
    return added_up(one_if(t), within, name)

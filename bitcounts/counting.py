"""Formulas that count digits of words, and those that count where tests hold."""

from bitcounts.checks import check_within
from bitcounts.conditions import Test
from bitcounts.errors import NotATest
from bitcounts.formulas import Formula
from bitcounts.measures import held_rule, length_measure, measured, ones_measure, raised_rule
from bitcounts.words import checked_word

GREATEST_BASE = 4


def ones(u):
    """The number of ones among the binary digits of u, if u is less than 0 of -u."""
    checked = checked_word(u)
    return Formula(measured(ones_measure(), checked._rule, checked._lag, 0))


def length(u):
    """How many binary digits u has, if it is less than 0 -u; 0 for 0."""
    checked = checked_word(u)
    return Formula(measured(length_measure(), checked._rule, checked._lag, 0))


def raised(base, u):
    """The integer to the power ones(u); 0 to the power 0 is 1."""
    check_within(base, -GREATEST_BASE, GREATEST_BASE)
    checked = checked_word(u)
    return Formula(raised_rule(base, checked._rule, checked._lag))


def one_if(t):
    """The formula that is 1 where the test holds, 0 elsewhere."""
    if not isinstance(t, Test):
        raise NotATest(t)
    return Formula(held_rule(t._machine))

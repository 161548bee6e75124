"""Formulas that count digits of words, and those that count where tests hold."""

from bitcounts.bounds import pile_of_machine, pile_of_system
from bitcounts.checks import check_within
from bitcounts.conditions import Test
from bitcounts.errors import NotATest
from bitcounts.formulas import Formula
from bitcounts.measures import bulky_measure
from bitcounts.measuring import measured_numbers
from bitcounts.mixed_rules import measured_system, word_rule
from bitcounts.mixtures import is_bulky, mixture_lag, simplest
from bitcounts.piles import pile_of_integer, pile_of_rule
from bitcounts.verdicts import states_of_zero
from bitcounts.walks import spelt
from bitcounts.words import checked_word

GREATEST_BASE = 4
MOST_STATES = 1500


def measured(kind, checked):
    """The formula of what is measured of the word."""
    mixture = simplest(checked._mixture, kind)
    if not mixture.parts:
        return Formula(pile_of_integer(measured_numbers(kind, [mixture.constant])[0]))
    if is_bulky(mixture):
        return Formula(pile_of_rule(bulky_measure(kind, word_rule(mixture), mixture_lag(mixture)), None))
    if kind == "zero":
        return Formula(pile_of_machine(states_of_zero(mixture), (kind, mixture)))
    spelling = spelt(mixture, MOST_STATES)
    if spelling.steps is None:
        rule = bulky_measure(kind, word_rule(mixture), mixture_lag(mixture))
        return Formula(pile_of_rule(rule, (kind, mixture)))
    return Formula(pile_of_system(measured_system(kind, spelling), spelling.letters, (kind, mixture)))


def ones(u):
    """The number of ones among the binary digits of u, if u is less than 0 of -u."""
    return measured("ones", checked_word(u))


def length(u):
    """How many binary digits u has, if it is less than 0 -u; 0 for 0."""
    return measured("length", checked_word(u))


def raised(base, u):
    """The integer to the power ones(u); 0 to the power 0 is 1."""
    check_within(base, -GREATEST_BASE, GREATEST_BASE)
    checked = checked_word(u)
    if base == 1:
        return Formula(pile_of_integer(1))
    return measured(base if base else "zero", checked)


def one_if(t):
    """The formula that is 1 where the test holds, 0 elsewhere."""
    if not isinstance(t, Test):
        raise NotATest(t)
    return Formula(pile_of_machine(t._machine, ("held", t._machine)))

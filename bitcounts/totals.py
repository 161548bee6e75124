"""Formulas added up, and tests counted, over the numbers of a variable below a word."""

from bitcounts.bounds import look_at_ranks, pile_of_machine, pile_of_total
from bitcounts.checks import check_name
from bitcounts.conditions import Test
from bitcounts.counting import one_if
from bitcounts.digit_rows import united
from bitcounts.errors import NotATest, WrongNames
from bitcounts.formulas import Formula
from bitcounts.limits import NAMES
from bitcounts.mixtures import mixture_names
from bitcounts.piles import all_letters, pile_names, pile_of_rule
from bitcounts.sums import summed
from bitcounts.words import checked_word, difference_machine, formula, var


def checked_bound(name, below):
    """What is passed for the end of a range of the variable, as a word."""
    check_name(name)
    bound = checked_word(below)
    if name in mixture_names(bound._mixture) and name in bound.names:
        raise WrongNames(name)
    return bound


def are_few(letters, bound, name):
    """Whether these names, those of the bound and the variable are seen to be at most three."""
    return len(all_letters([letters, mixture_names(bound._mixture), (name,)])) <= NAMES


def added_up(one, machine, name):
    """The formula added up over all numbers of the variable for which the machine holds."""
    made = pile_of_total(one._pile, machine, name)
    if made is not None:
        return Formula(made)
    within = Formula(pile_of_machine(machine, ("held", machine)))
    return Formula(pile_of_rule(summed(one.rule, within.rule, name), None))


def total(f, name, below):
    """f added up over all numbers of the variable less than the value of the word `below`."""
    one = formula(f)
    bound = checked_bound(name, below)
    if not are_few(pile_names(one._pile), bound, name):
        united(united(one.names, bound.names), (name,))
    return added_up(one, difference_machine(var(name), bound, False), name)


def count(t, name, below):
    """How many numbers of the variable less than the value of the word `below` keep the test."""
    if not isinstance(t, Test):
        raise NotATest(t)
    bound = checked_bound(name, below)
    if not are_few(t.names, bound, name):
        united(united(t.names, bound.names), (name,))
    machine = difference_machine(var(name), bound, False)
    look_at_ranks(machine, t._machine)
    return added_up(one_if(t), machine, name)

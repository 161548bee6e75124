"""Formulas: an integer for all values of at most three variables."""

from bitcounts.bounds import limited_pile, pile_of_product
from bitcounts.checks import check_within, is_integer, numbers_by_name, numbers_by_pairs
from bitcounts.digit_rows import united
from bitcounts.limits import NAMES
from bitcounts.mixtures import is_spread
from bitcounts.piles import (
    all_letters, is_seen_to_hang, pile_names, pile_of_integer, pile_of_rule, pile_value, piled, scaled_pile,
)
from bitcounts.rules import HIGHEST_POWER, rule_equations, same_rules
from bitcounts.zeros import is_zero


def formula_operand(operand):
    """The formula or the integer as a formula, None for other kinds: words know formulas, not the reverse."""
    if isinstance(operand, Formula):
        return operand
    if is_integer(operand):
        return Formula(pile_of_integer(operand))
    return None


def added(one, other, factor):
    """The first formula and so many times the other one."""
    pile, beside = one._pile, other._pile
    if len(all_letters([pile_names(pile), pile_names(beside)])) > NAMES:
        # Some names may have dropped out.
        united(one.names, other.names)
        pile, beside = pile_of_rule(one.rule, None), pile_of_rule(other.rule, None)
    return Formula(limited_pile(piled(pile, beside, factor)))


def is_integer_pile(pile):
    return not pile.terms and not pile.mixture.parts


def times(one, other):
    """The product of two formulas."""
    if is_integer_pile(other._pile):
        return Formula(scaled_pile(one._pile, other._pile.mixture.constant))
    if is_integer_pile(one._pile):
        return Formula(scaled_pile(other._pile, one._pile.mixture.constant))
    pile, beside = one._pile, other._pile
    if len(all_letters([pile_names(pile), pile_names(beside)])) > NAMES:
        # Some names may have dropped out.
        united(one.names, other.names)
        pile, beside = pile_of_rule(one.rule, None), pile_of_rule(other.rule, None)
    return Formula(pile_of_product(pile, beside))


def power_of(one, exponent):
    """The product of so many of them, multiplied one by one."""
    check_within(exponent, 0, HIGHEST_POWER)
    if exponent == 0:
        return Formula(pile_of_integer(1))
    result = one
    for _ in range(exponent - 1):
        result = times(result, one)
    return result


def are_same(one, other):
    """Whether both formulas are the same."""
    difference = piled(one._pile, other._pile, -1)
    if len(pile_names(difference)) <= NAMES:
        return is_zero(difference)
    return same_rules(one.rule, other.rule)


def names_of_formula(one):
    """The names on which the formula hangs; its least rule is asked for them only if values do not show them."""
    pile = one._pile
    names = pile_names(pile)
    if not pile.terms and is_spread(pile.mixture) or is_seen_to_hang(pile, names):
        return names
    return one.rule.variables


class Formula:
    """A formula is kept as a pile; its least rule is worked out when it is asked for."""

    def __init__(self, pile):
        self._pile = pile
        self._formula_names = None

    @property
    def rule(self):
        return self._pile.rule

    @property
    def names(self):
        if self._formula_names is None:
            self._formula_names = names_of_formula(self)
        return self._formula_names

    @property
    def rank(self):
        return self._pile.rank

    @property
    def basis(self):
        return self.rule.parts

    @property
    def equations(self):
        return rule_equations(self.rule)

    @property
    def firsts(self):
        return self.rule.starts

    def at(self, pairs):
        return pile_value(self._pile, numbers_by_pairs(self, pile_names(self._pile), pairs))

    def of(self, **numbers):
        return pile_value(self._pile, numbers_by_name(self, pile_names(self._pile), numbers))

    def __add__(self, other):
        beside = formula_operand(other)
        if beside is None:
            return NotImplemented
        return added(self, beside, 1)

    def __radd__(self, other):
        return self + other

    def __neg__(self):
        return Formula(scaled_pile(self._pile, -1))

    def __sub__(self, other):
        beside = formula_operand(other)
        if beside is None:
            return NotImplemented
        return added(self, beside, -1)

    def __rsub__(self, other):
        return -self + other

    def __mul__(self, other):
        beside = formula_operand(other)
        if beside is None:
            return NotImplemented
        return times(self, beside)

    def __rmul__(self, other):
        return self * other

    def __pow__(self, other):
        if not is_integer(other):
            return NotImplemented
        return power_of(self, other)

    def __eq__(self, other):
        if not isinstance(other, Formula):
            return NotImplemented
        return are_same(self, other)

    def __bool__(self):
        return not are_same(self, Formula(pile_of_integer(0)))

    def __repr__(self):
        return f"Formula({self.rank})"

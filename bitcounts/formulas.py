"""Formulas: an integer for all values of at most three variables."""

from bitcounts.checks import is_integer, numbers_by_name, numbers_by_pairs
from bitcounts.rules import added, constant, multiplied, power, rule_equations, rule_value, same_rules, scaled


def formula_operand(operand):
    """The rule of a formula or an integer, None for other kinds: words know formulas, not the reverse."""
    if isinstance(operand, Formula):
        return operand._rule
    if is_integer(operand):
        return constant(operand)
    return None


class Formula:
    def __init__(self, rule):
        self._rule = rule

    @property
    def names(self):
        return self._rule.variables

    @property
    def rank(self):
        return len(self._rule.parts)

    @property
    def basis(self):
        return self._rule.parts

    @property
    def equations(self):
        return rule_equations(self._rule)

    @property
    def firsts(self):
        return self._rule.starts

    def at(self, pairs):
        return rule_value(self._rule, numbers_by_pairs(self._rule.variables, pairs))

    def of(self, **numbers):
        return rule_value(self._rule, numbers_by_name(self._rule.variables, numbers))

    def __add__(self, other):
        rule = formula_operand(other)
        if rule is None:
            return NotImplemented
        return Formula(added(self._rule, rule))

    def __radd__(self, other):
        return self + other

    def __neg__(self):
        return Formula(scaled(self._rule, -1))

    def __sub__(self, other):
        rule = formula_operand(other)
        if rule is None:
            return NotImplemented
        return Formula(added(self._rule, scaled(rule, -1)))

    def __rsub__(self, other):
        return -self + other

    def __mul__(self, other):
        rule = formula_operand(other)
        if rule is None:
            return NotImplemented
        return Formula(multiplied(self._rule, rule))

    def __rmul__(self, other):
        return self * other

    def __pow__(self, other):
        if not is_integer(other):
            return NotImplemented
        return Formula(power(self._rule, other))

    def __eq__(self, other):
        if not isinstance(other, Formula):
            return NotImplemented
        return same_rules(self._rule, other._rule)

    def __bool__(self):
        return bool(self._rule.parts)

    def __repr__(self):
        return f"Formula({len(self._rule.parts)})"

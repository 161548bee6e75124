"""Words: what is made of variables and integers by the operators of integers."""

from bitcounts.checks import check_name, check_within, is_integer, numbers_by_name, numbers_by_pairs
from bitcounts.errors import NotAFormula
from bitcounts.formulas import Formula
from bitcounts.rules import added, constant, multiplied, power, rule_equations, rule_value, same_rules, scaled, variable

GREATEST_WORD = 10 ** 6
GREATEST_FACTOR = 16


def word_operand(operand):
    """The rule of a word or an integer in the place of one, None for other kinds."""
    if isinstance(operand, Word):
        return operand._rule
    if is_integer(operand):
        check_within(operand, -GREATEST_WORD, GREATEST_WORD)
        return constant(operand)
    return None


class Word:
    def __init__(self, rule):
        self._rule = rule

    @property
    def names(self):
        return self._rule.variables

    @property
    def rank(self):
        return len(self._rule.parts)

    @property
    def basis(self):
        return self._rule.parts

    @property
    def equations(self):
        return rule_equations(self._rule)

    @property
    def firsts(self):
        return self._rule.starts

    def at(self, pairs):
        return rule_value(self._rule, numbers_by_pairs(self._rule.variables, pairs))

    def of(self, **numbers):
        return rule_value(self._rule, numbers_by_name(self._rule.variables, numbers))

    def __add__(self, other):
        if isinstance(other, Formula):
            return formula(self) + other
        rule = word_operand(other)
        if rule is None:
            return NotImplemented
        return Word(added(self._rule, rule))

    def __radd__(self, other):
        return self + other

    def __neg__(self):
        return Word(scaled(self._rule, -1))

    def __sub__(self, other):
        if isinstance(other, Formula):
            return formula(self) - other
        rule = word_operand(other)
        if rule is None:
            return NotImplemented
        return Word(added(self._rule, scaled(rule, -1)))

    def __rsub__(self, other):
        return -self + other

    def __mul__(self, other):
        if isinstance(other, Formula):
            return formula(self) * other
        if isinstance(other, Word):
            return Formula(multiplied(self._rule, other._rule))
        if not is_integer(other):
            return NotImplemented
        check_within(other, -GREATEST_FACTOR, GREATEST_FACTOR)
        return Word(scaled(self._rule, other))

    def __rmul__(self, other):
        return self * other

    def __pow__(self, other):
        if not is_integer(other):
            return NotImplemented
        return Formula(power(self._rule, other))

    def __eq__(self, other):
        if not isinstance(other, (Formula, Word)):
            return NotImplemented
        return same_rules(self._rule, other._rule)

    def __bool__(self):
        return bool(self._rule.parts)

    def __repr__(self):
        return f"Word({len(self._rule.parts)})"


def var(name):
    """The variable of this name."""
    check_name(name)
    return Word(variable(name))


def word(c):
    """The integer as a word."""
    check_within(c, -GREATEST_WORD, GREATEST_WORD)
    return Word(constant(c))


def formula(f):
    """The word or integer as a Formula; a Formula is returned as it is."""
    if isinstance(f, Formula):
        return f
    if isinstance(f, Word):
        return Formula(f._rule)
    if is_integer(f):
        return Formula(constant(f))
    raise NotAFormula(f)

"""Words: what is made of variables and integers by the operators of integers."""

from bitcounts.blends import blended
from bitcounts.checks import check_name, check_within, is_integer, numbers_by_name, numbers_by_pairs
from bitcounts.conditions import Test
from bitcounts.errors import NotAFormula, NotAVariable, NotAWord
from bitcounts.formulas import Formula
from bitcounts.readings import below_zero, equal_to_zero, from_zero_on, machine_of, with_rest
from bitcounts.rules import (
    added, constant, halved, is_variable, multiplied, power, rule_equations, rule_value, same_rules, scaled,
    side_by_side, told_both, told_first, variable,
)

GREATEST_WORD = 10 ** 6
GREATEST_FACTOR = 16
GREATEST_SHIFT = 8
GREATEST_SHIFT_BACK = 4
GREATEST_MODULUS = 12


def word_operand(operand):
    """The word or the integer as a word, None for other kinds."""
    if isinstance(operand, Word):
        return operand
    if is_integer(operand):
        check_within(operand, -GREATEST_WORD, GREATEST_WORD)
        return Word(constant(operand), 0)
    return None


def joint_lag(one, other):
    """The lag of what is made of both digit by digit; integers have none of their own."""
    if not other._rule.variables:
        return one._lag
    if not one._rule.variables or one._lag < other._lag:
        return other._lag
    return one._lag


def zeros_below(factor):
    """How many zeros the factor puts below the digits of a word."""
    return (factor & -factor).bit_length() - 1 if factor else 0


def blend(sign, one, other):
    """The word `one & other`, or with `|` or `^` in the place of `&`."""
    return Word(blended(sign, one._rule, one._lag, other._rule, other._lag), joint_lag(one, other))


def difference_test(one, other, reading):
    """The test that the reading holds for the difference."""
    names, sides, starts = side_by_side(one._rule, other._rule)
    told = told_both(one._rule, other._rule, -1)
    return Test(machine_of(names, sides, starts, told, joint_lag(one, other), reading))


class Word:
    """A word is kept by its least rule, and by its lag (see `spellings`), by which its digits are found."""

    def __init__(self, rule, lag):
        self._rule = rule
        self._lag = lag

    @property
    def names(self):
        return self._rule.variables

    @property
    def rank(self):
        return len(self._rule.parts)

    @property
    def basis(self):
        return self._rule.parts

    @property
    def equations(self):
        return rule_equations(self._rule)

    @property
    def firsts(self):
        return self._rule.starts

    def at(self, pairs):
        return rule_value(self._rule, numbers_by_pairs(self._rule.variables, pairs))

    def of(self, **numbers):
        return rule_value(self._rule, numbers_by_name(self._rule.variables, numbers))

    def __add__(self, other):
        if isinstance(other, Formula):
            return formula(self) + other
        beside = word_operand(other)
        if beside is None:
            return NotImplemented
        return Word(added(self._rule, beside._rule), joint_lag(self, beside))

    def __radd__(self, other):
        return self + other

    def __neg__(self):
        return Word(scaled(self._rule, -1), self._lag)

    def __sub__(self, other):
        if isinstance(other, Formula):
            return formula(self) - other
        beside = word_operand(other)
        if beside is None:
            return NotImplemented
        return Word(added(self._rule, scaled(beside._rule, -1)), joint_lag(self, beside))

    def __rsub__(self, other):
        return -self + other

    def __mul__(self, other):
        if isinstance(other, Formula):
            return formula(self) * other
        if isinstance(other, Word):
            return Formula(multiplied(self._rule, other._rule))
        if not is_integer(other):
            return NotImplemented
        check_within(other, -GREATEST_FACTOR, GREATEST_FACTOR)
        return Word(scaled(self._rule, other), self._lag - zeros_below(other))

    def __rmul__(self, other):
        return self * other

    def __pow__(self, other):
        if not is_integer(other):
            return NotImplemented
        return Formula(power(self._rule, other))

    def __and__(self, other):
        beside = word_operand(other)
        if beside is None:
            return NotImplemented
        return blend("&", self, beside)

    def __rand__(self, other):
        return self & other

    def __or__(self, other):
        beside = word_operand(other)
        if beside is None:
            return NotImplemented
        return blend("|", self, beside)

    def __ror__(self, other):
        return self | other

    def __xor__(self, other):
        beside = word_operand(other)
        if beside is None:
            return NotImplemented
        return blend("^", self, beside)

    def __rxor__(self, other):
        return self ^ other

    def __invert__(self):
        return -self - 1

    def __lshift__(self, other):
        if not is_integer(other):
            return NotImplemented
        check_within(other, 0, GREATEST_SHIFT)
        return Word(scaled(self._rule, 1 << other), self._lag - other)

    def __rshift__(self, other):
        if not is_integer(other):
            return NotImplemented
        check_within(other, 0, GREATEST_SHIFT_BACK)
        if not is_variable(self._rule):
            raise NotAVariable(self)
        return Word(halved(self._rule.variables[0], other), other)

    def __lt__(self, other):
        beside = word_operand(other)
        if beside is None:
            return NotImplemented
        return difference_test(self, beside, below_zero())

    def __le__(self, other):
        beside = word_operand(other)
        if beside is None:
            return NotImplemented
        return difference_test(beside, self, from_zero_on())

    def __gt__(self, other):
        beside = word_operand(other)
        if beside is None:
            return NotImplemented
        return difference_test(beside, self, below_zero())

    def __ge__(self, other):
        beside = word_operand(other)
        if beside is None:
            return NotImplemented
        return difference_test(self, beside, from_zero_on())

    def __eq__(self, other):
        if not isinstance(other, (Formula, Word)):
            return NotImplemented
        return same_rules(self._rule, other._rule)

    def __bool__(self):
        return bool(self._rule.parts)

    def __repr__(self):
        return f"Word({len(self._rule.parts)})"


def var(name):
    """The variable of this name."""
    check_name(name)
    return Word(variable(name), 0)


def word(c):
    """The integer as a word."""
    check_within(c, -GREATEST_WORD, GREATEST_WORD)
    return Word(constant(c), 0)


def formula(f):
    """The word or integer as a Formula; a Formula is returned as it is."""
    if isinstance(f, Formula):
        return f
    if isinstance(f, Word):
        return Formula(f._rule)
    if is_integer(f):
        return Formula(constant(f))
    raise NotAFormula(f)


def checked_word(value):
    """What is passed for a word, as a word."""
    checked = word_operand(value)
    if checked is None:
        raise NotAWord(value)
    return checked


def same(u, v):
    """The test that both words have the same value."""
    return difference_test(checked_word(u), checked_word(v), equal_to_zero())


def rests(u, modulus, rest):
    """The test that the word divided by the modulus leaves this rest."""
    checked = checked_word(u)
    check_within(modulus, 2, GREATEST_MODULUS)
    check_within(rest, 0, modulus - 1)
    rule = checked._rule
    reading = with_rest(modulus, rest)
    return Test(machine_of(rule.variables, rule.sides, rule.starts, told_first(rule.starts), checked._lag, reading))

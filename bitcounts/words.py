"""Words: what is made of variables and integers by the operators of integers."""

from bitcounts.atoms import bulky_atom, halved_atom, narrowed, rank_by_heights, variable_atom
from bitcounts.blends import blended
from bitcounts.checks import check_name, check_within, is_integer, numbers_by_name, numbers_by_pairs
from bitcounts.conditions import Test
from bitcounts.digit_rows import united
from bitcounts.errors import NotAFormula, NotAVariable, NotAWord, TooMany
from bitcounts.evaluations import mixture_value
from bitcounts.formulas import Formula, are_same, power_of, times
from bitcounts.glances import look_at_line
from bitcounts.limits import NAMES, RANK
from bitcounts.machines import opposite
from bitcounts.mixed_rules import mixture_system
from bitcounts.mixtures import (
    Mixture, is_bulky, is_spread, many_lines, mixed, mixture_lag, mixture_names, scaled_mixture, zeros_below,
)
from bitcounts.pairings import joined_mixtures
from bitcounts.piles import Pile, is_seen_to_hang, pile_of_rule
from bitcounts.readings import below_zero, equal_to_zero, machine_of, with_rest
from bitcounts.rules import (
    added, is_variable, rule_equations, scaled, side_by_side, told_both, told_first,
)
from bitcounts.solving import least_basis, some_columns
from bitcounts.verdicts import compared, rest_machine

GREATEST_WORD = 10 ** 6
# With more lines than these most ranks of words of one name are too great.
MANY_LINES = 17
GREATEST_FACTOR = 16
GREATEST_SHIFT = 8
GREATEST_SHIFT_BACK = 4
GREATEST_MODULUS = 12


def word_operand(operand):
    """The word or the integer as a word, None for other kinds."""
    if isinstance(operand, Word):
        return operand
    if is_integer(operand):
        check_within(operand, -GREATEST_WORD, GREATEST_WORD)
        return Word(Mixture(operand, ()))
    return None


def bulky_word(rule, lag):
    """A word that is kept by its least rule."""
    return Word(Mixture(0, ((1, bulky_atom(rule, lag)),)))


def with_width(mixture, width):
    """The mixture of a single atom, of which it is known that it has no more than this width."""
    by, atom = mixture.parts[0]
    return Mixture(mixture.constant, ((by, narrowed(atom, width)),))


def within_rank(mixture):
    """The word; TooMany is raised if its rank is greater than 16."""
    if many_lines(mixture) <= RANK:
        return Word(mixture)
    rank = rank_by_heights(mixture.parts[0][1]) if len(mixture.parts) == 1 else None
    if rank is not None:
        if rank > RANK:
            raise TooMany()
        return Word(with_width(mixture, rank))
    names = mixture_names(mixture)
    system = mixture_system(mixture, names)
    if len(names) == 1 and many_lines(mixture) > MANY_LINES:
        look_at_line(system)
    columns = some_columns(system)
    if not columns.waiting and len(mixture.parts) == 1:
        mixture = with_width(mixture, len(columns.found))
    if columns.waiting or len(columns.found) > RANK:
        _ = least_basis(system, columns, len(names))
    return Word(mixture)


def compacted(one, other):
    """Both words; if they seem to have more than three names, they are told without those that have dropped out."""
    names = mixture_names(one._mixture)
    if len([*names, *[name for name in mixture_names(other._mixture) if name not in names]]) <= NAMES:
        return one, other
    united(one.names, other.names)
    return bulky_word(one.rule, mixture_lag(one._mixture)), bulky_word(other.rule, mixture_lag(other._mixture))


def joint_lag(one, other):
    """The lag of what is made of both digit by digit; integers have none of their own."""
    if not other.names:
        return mixture_lag(one._mixture)
    if not one.names:
        return mixture_lag(other._mixture)
    return max([int(mixture_lag(one._mixture)), int(mixture_lag(other._mixture))])


def name_of_variable(one):
    """The name of the variable to which the word is equal, None if it is equal to none."""
    parts = one._mixture.parts
    if len(parts) == 1 and parts[0][0] == 1 and one._mixture.constant == 0 and parts[0][1].shape is not None:
        sign, name, times_halved = parts[0][1].shape[:3]
        if sign == "name" and times_halved == 0:
            return name
    return one.rule.variables[0] if is_variable(one.rule) else None


def sum_of(one, other, factor):
    """The first word and so many times the other one."""
    one, other = compacted(one, other)
    if is_bulky(one._mixture) or is_bulky(other._mixture):
        return bulky_word(added(one.rule, scaled(other.rule, factor)), joint_lag(one, other))
    return within_rank(mixed(one._mixture, other._mixture, factor))


def multiple_of(one, factor):
    """The word times the factor."""
    mixture = one._mixture
    if is_bulky(mixture) and factor != 0:
        return bulky_word(scaled(one.rule, factor), mixture_lag(mixture) - zeros_below(factor))
    return Word(scaled_mixture(mixture, factor))


def blend(sign, one, other):
    """The word `one & other`, or with `|` or `^` in the place of `&`."""
    one, other = compacted(one, other)
    mixture = joined_mixtures(sign, one._mixture, other._mixture)
    if mixture is not None:
        return within_rank(mixture)
    lag, lag_beside = mixture_lag(one._mixture), mixture_lag(other._mixture)
    return bulky_word(blended(sign, one.rule, lag, other.rule, lag_beside), joint_lag(one, other))


def difference_machine(one, other, equal):
    """The machine of the test that the difference is 0, or, if `equal` is not asked, less than 0."""
    one, other = compacted(one, other)
    if not is_bulky(one._mixture) and not is_bulky(other._mixture):
        return compared(mixed(one._mixture, other._mixture, -1), equal)
    names, sides, starts = side_by_side(one.rule, other.rule)
    told = told_both(one.rule, other.rule, -1)
    reading = equal_to_zero() if equal else below_zero()
    return machine_of(names, sides, starts, told, joint_lag(one, other), reading)


def is_below(one, other):
    """The test that the first word is less."""
    return Test(difference_machine(one, other, False))


def is_not_below(one, other):
    return Test(opposite(difference_machine(one, other, False)))


def rest_test(one, modulus, rest):
    """The test that the word leaves this rest."""
    mixture = one._mixture
    if not is_bulky(mixture):
        return Test(rest_machine(mixture, modulus, rest))
    rule = one.rule
    reading = with_rest(modulus, rest)
    told = told_first(rule.starts)
    return Test(machine_of(rule.variables, rule.sides, rule.starts, told, mixture_lag(mixture), reading))


def names_of_word(one):
    """The names on which the word hangs; its least rule is asked for them only if values do not show them."""
    mixture = one._mixture
    names = mixture_names(mixture)
    if is_spread(mixture) or not is_bulky(mixture) and is_seen_to_hang(one.pile, names):
        return names
    return one.rule.variables


def pile_of_word(mixture):
    """The pile of a word that is kept as this mixture; a bulky atom stands alone in it."""
    return pile_of_rule(mixture.parts[0][1].bulk, None) if is_bulky(mixture) else Pile(mixture, ())


class Word:
    """A word is kept as a mixture; its least rule is worked out when it is asked for, by its pile."""

    def __init__(self, mixture):
        self._mixture = mixture
        self._word_pile = None
        self._word_names = None

    @property
    def pile(self):
        if self._word_pile is None:
            self._word_pile = pile_of_word(self._mixture)
        return self._word_pile

    @property
    def rule(self):
        return self.pile.rule

    @property
    def names(self):
        if self._word_names is None:
            self._word_names = names_of_word(self)
        return self._word_names

    @property
    def rank(self):
        return self.pile.rank

    @property
    def basis(self):
        return self.rule.parts

    @property
    def equations(self):
        return rule_equations(self.rule)

    @property
    def firsts(self):
        return self.rule.starts

    def at(self, pairs):
        return mixture_value(self._mixture, numbers_by_pairs(self, mixture_names(self._mixture), pairs))

    def of(self, **numbers):
        return mixture_value(self._mixture, numbers_by_name(self, mixture_names(self._mixture), numbers))

    def __add__(self, other):
        if isinstance(other, Formula):
            return formula(self) + other
        beside = word_operand(other)
        if beside is None:
            return NotImplemented
        return sum_of(self, beside, 1)

    def __radd__(self, other):
        return self + other

    def __neg__(self):
        return multiple_of(self, -1)

    def __sub__(self, other):
        if isinstance(other, Formula):
            return formula(self) - other
        beside = word_operand(other)
        if beside is None:
            return NotImplemented
        return sum_of(self, beside, -1)

    def __rsub__(self, other):
        return -self + other

    def __mul__(self, other):
        if isinstance(other, Formula):
            return formula(self) * other
        if isinstance(other, Word):
            return times(formula(self), formula(other))
        if not is_integer(other):
            return NotImplemented
        check_within(other, -GREATEST_FACTOR, GREATEST_FACTOR)
        return multiple_of(self, other)

    def __rmul__(self, other):
        return self * other

    def __pow__(self, other):
        if not is_integer(other):
            return NotImplemented
        return power_of(formula(self), other)

    def __and__(self, other):
        beside = word_operand(other)
        if beside is None:
            return NotImplemented
        return blend("&", self, beside)

    def __rand__(self, other):
        return self & other

    def __or__(self, other):
        beside = word_operand(other)
        if beside is None:
            return NotImplemented
        return blend("|", self, beside)

    def __ror__(self, other):
        return self | other

    def __xor__(self, other):
        beside = word_operand(other)
        if beside is None:
            return NotImplemented
        return blend("^", self, beside)

    def __rxor__(self, other):
        return self ^ other

    def __invert__(self):
        return -self - 1

    def __lshift__(self, other):
        if not is_integer(other):
            return NotImplemented
        check_within(other, 0, GREATEST_SHIFT)
        return multiple_of(self, 1 << other)

    def __rshift__(self, other):
        if not is_integer(other):
            return NotImplemented
        check_within(other, 0, GREATEST_SHIFT_BACK)
        name = name_of_variable(self)
        if name is None:
            raise NotAVariable(self)
        return Word(Mixture(0, ((1, halved_atom(name, other) if other else variable_atom(name)),)))

    def __lt__(self, other):
        beside = word_operand(other)
        if beside is None:
            return NotImplemented
        return is_below(self, beside)

    def __le__(self, other):
        beside = word_operand(other)
        if beside is None:
            return NotImplemented
        return is_not_below(beside, self)

    def __gt__(self, other):
        beside = word_operand(other)
        if beside is None:
            return NotImplemented
        return is_below(beside, self)

    def __ge__(self, other):
        beside = word_operand(other)
        if beside is None:
            return NotImplemented
        return is_not_below(self, beside)

    def __eq__(self, other):
        if not isinstance(other, (Formula, Word)):
            return NotImplemented
        return are_same(formula(self), formula(other))

    def __bool__(self):
        return bool(formula(self))

    def __repr__(self):
        return f"Word({self.rank})"


def var(name):
    """The variable of this name."""
    check_name(name)
    return Word(Mixture(0, ((1, variable_atom(name)),)))


def word(c):
    """The integer as a word."""
    check_within(c, -GREATEST_WORD, GREATEST_WORD)
    return Word(Mixture(c, ()))


def formula(f):
    """The word or integer as a Formula; a Formula is returned as it is."""
    if isinstance(f, Formula):
        return f
    if isinstance(f, Word):
        return Formula(f.pile)
    if is_integer(f):
        return Formula(Pile(Mixture(f, ()), ()))
    raise NotAFormula(f)


def checked_word(value):
    """What is passed for a word, as a word."""
    checked = word_operand(value)
    if checked is None:
        raise NotAWord(value)
    return checked


def same(u, v):
    """The test that both words have the same value."""
    one, other = checked_word(u), checked_word(v)
    return Test(difference_machine(one, other, True))


def rests(u, modulus, rest):
    """The test that the word divided by the modulus leaves this rest."""
    checked = checked_word(u)
    check_within(modulus, 2, GREATEST_MODULUS)
    check_within(rest, 0, modulus - 1)
    return rest_test(checked, modulus, rest)

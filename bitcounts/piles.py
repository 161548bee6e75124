"""Piles: sums of a mixture and of multiples of terms, which all formulas are."""

from bitcounts.digit_rows import digit_indexes
from bitcounts.errors import TooMany
from bitcounts.evaluations import mixture_value
from bitcounts.glances import look_at_line
from bitcounts.limits import RANK
from bitcounts.machines import holds_at, same_machines
from bitcounts.measuring import measured_numbers
from bitcounts.mixed_rules import mixture_block, mixture_rule
from bitcounts.mixtures import Mixture, many_lines, mixed, mixture_names, same_mixtures, scaled_mixture
from bitcounts.rules import (
    Rule, check_product, multiplied, product_system, rule_block, rule_value, same_rules, scaled, solved_rule,
    sum_system,
)
from bitcounts.solving import SOME_LINES, System, some_columns, told_apart

MOST_TERMS = 6
# With more states than these most ranks of what is measured of words of one name are too great.
MANY_LINES = 21
DEEPEST = 6


class Source:
    """What a least rule is worked out of when it is asked for: as `solved_rule` takes it."""

    def __init__(self, system, known, names):
        self.system = system
        self.known = known
        self.letters = names


class Term:
    """A formula that is told by its least rule, or by the source of it.

    The `shape` tells its values more quickly, or is None. It is a pair of a kind and what it is about: a mixture that
    is measured, for "held" a machine, for "sum" a pile, or for "times" a pair of piles, so `deep` within each other.
    The names on which the formula hangs, and those of the shape, are among its `letters`; its rank is not above `most`.
    """

    def __init__(self, source, names, most, shape, deep):
        self._source = source
        self._told = None
        self.letters = names
        self.most = most
        self.shape = shape
        self.deep = deep

    @property
    def told(self):
        if self._told is None:
            self._told = rule_of_source(self._source)
        return self._told


def rule_of_source(source):
    if isinstance(source, Rule):
        return source
    return solved_rule(source.system, source.known, source.letters)


def same_terms(term, other):
    """Whether it is seen at once that both terms are the same."""
    if term.shape is None or other.shape is None:
        return term.shape is None and other.shape is None and same_rules(term.told, other.told)
    if term.shape[0] != other.shape[0]:
        return False
    if term.shape[0] == "held":
        return same_machines(term.shape[1], other.shape[1])
    if term.shape[0] == "times" or term.shape[0] == "sum":
        return same_rules(term.told, other.told)
    return same_mixtures(term.shape[1], other.shape[1])


def depth_of(pile):
    return max([int(term.deep) for _, term in pile.terms], default=0)


def pile_of_product(rule, other, pile, beside):
    """The pile of the product of two piles with these least rules; TooMany is raised if its rank is greater than 16."""
    check_product(rule, other)
    most = len(rule.starts) * len(other.starts)
    deep = 1 + depth_of(pile) + depth_of(beside)
    shape = ("times", (pile, beside)) if deep <= DEEPEST else None
    if most == 0 or most > RANK or not rule.variables or not other.variables:
        made = multiplied(rule, other)
        return pile_of_shape(made, made.variables, len(made.starts), shape, deep if shape else 0)
    system, columns, names = product_system(rule, other)
    return pile_of_shape(Source(system, columns, names), names, most, shape, deep if shape else 0)


def held_system(machine, kind):
    """The system of what is 1 where the test of the machine holds, 0 elsewhere; its lines are the classes."""
    moves = []
    for index in range(len(machine.ways[0])):
        moves.append([(1, way[index], 0) for way in machine.ways])
    return System(kind, [int(mark) for mark in machine.marks], moves, (0, ((1, 0),)), None)


def pile_of_machine(machine, shape):
    """The pile of what is 1 where the test of the machine holds, 0 elsewhere; TooMany is raised as for all ranks."""
    # All lines are parts of the first one here, so the rank is the number of columns.
    if len(machine.marks) > SOME_LINES and len(some_columns(held_system(machine, "some")).found) > RANK:
        raise TooMany()
    system = held_system(machine, "sum")
    known = some_columns(system)
    if len(known.found) > RANK:
        raise TooMany()
    names = machine.variables
    return pile_of_shape(Source(system, known, names), names, len(known.found), shape, 0)


class Pile:
    """A mixture and the pairs of a factor, not 0, and a term."""

    def __init__(self, mixture, terms):
        self.mixture = mixture
        self.terms = terms


def pile_of_integer(number):
    return Pile(Mixture(number, ()), ())


def shape_names(shape):
    """The names of what the shape is about."""
    if shape is None:
        return ()
    kind, about = shape
    if kind == "held":
        return about.variables
    if kind == "sum":
        return pile_names(about)
    if kind == "times":
        return (*pile_names(about[0]), *pile_names(about[1]))
    return mixture_names(about)


def pile_of_shape(source, names, most, shape, deep):
    """The pile of a single term."""
    letters = {name: True for name in (*names, *shape_names(shape))}
    return Pile(Mixture(0, ()), ((1, Term(source, tuple(sorted([str(name) for name in letters])), most, shape, deep)),))


def pile_of_rule(rule, shape):
    return pile_of_shape(rule, rule.variables, len(rule.starts), shape, 0)


def pile_of_system(system, names, shape):
    """The pile of what the system tells; TooMany is raised if its rank is greater than 16."""
    lines = len(told_apart(system, system.first))
    if lines <= RANK:
        return pile_of_shape(Source(system, None, names), names, lines, shape, 0)
    if len(names) == 1 and len(system.first) > MANY_LINES:
        look_at_line(system)
    known = some_columns(system)
    if known.waiting or len(known.found) > RANK:
        return pile_of_rule(solved_rule(system, known, names), shape)
    return pile_of_shape(Source(system, known, names), names, len(known.found), shape, 0)


def piled(pile, other, factor):
    """The pile and so many times the other one."""
    terms = list(pile.terms)
    for by, term in other.terms:
        place = len(terms)
        for at, pair in enumerate(terms):
            if same_terms(pair[1], term):
                place = at
        if place == len(terms):
            terms.append((factor * by, term))
        else:
            terms[place] = (terms[place][0] + factor * by, term)
    left = tuple([pair for pair in terms if pair[0] != 0])
    return Pile(mixed(pile.mixture, other.mixture, factor), left)


def scaled_pile(pile, factor):
    if factor == 0:
        return pile_of_integer(0)
    return Pile(scaled_mixture(pile.mixture, factor), tuple([(factor * by, term) for by, term in pile.terms]))


def pile_names(pile):
    """The names of all that is in the pile, ascending; it may hang on fewer."""
    if not pile.terms:
        return mixture_names(pile.mixture)
    found = {name: True for name in mixture_names(pile.mixture)}
    for _, term in pile.terms:
        for name in term.letters:
            found[name] = True
    return tuple(sorted([str(name) for name in found]))


def most_rank(pile, exact):
    """At least the rank; to be exact, the least rules of all terms are asked for theirs."""
    ranks = sum([len(term.told.starts) if exact else term.most for _, term in pile.terms])
    if pile.mixture.parts:
        return ranks + many_lines(pile.mixture)
    return ranks + (1 if pile.mixture.constant else 0)


def pile_rule(pile):
    """The least rule; TooMany is raised if its rank is greater than 16."""
    if not pile.terms:
        return mixture_rule(pile.mixture)
    if len(pile.terms) == 1 and not pile.mixture.parts and pile.mixture.constant == 0:
        return scaled(pile.terms[0][1].told, pile.terms[0][0])
    system, names = pile_system(pile)
    return solved_rule(system, None, names)


def pile_system(pile):
    """The system of the sum of the terms and the mixture, and all names."""
    blocks = [rule_block(term.told, by) for by, term in pile.terms]
    if pile.mixture.parts or pile.mixture.constant:
        return sum_system([*blocks, mixture_block(pile.mixture)])
    return sum_system(blocks)


def limited_pile(pile):
    """The pile, or one of a single term instead; TooMany is raised if its rank is greater than 16."""
    if len(pile.terms) <= MOST_TERMS and (most_rank(pile, False) <= RANK or most_rank(pile, True) <= RANK):
        return pile
    system, names = pile_system(pile)
    columns = some_columns(system)
    if len(pile.terms) <= MOST_TERMS and not columns.waiting and len(columns.found) <= RANK:
        return pile
    rule = solved_rule(system, columns, names)
    deep = 1 + depth_of(pile)
    shape = ("sum", pile) if deep <= DEEPEST and len(pile.terms) <= MOST_TERMS else None
    return pile_of_shape(rule, rule.variables, len(rule.starts), shape, deep if shape else 0)


def term_value(term, numbers):
    """The value of the term at the numbers by their names."""
    if term.shape is None:
        return rule_value(term.told, [numbers[name] for name in term.told.variables])
    kind, about = term.shape
    if kind == "held":
        return int(holds_at(about, digit_indexes([numbers[name] for name in about.variables])))
    if kind == "sum":
        return pile_value(about, numbers)
    if kind == "times":
        return pile_value(about[0], numbers) * pile_value(about[1], numbers)
    return measured_numbers(kind, [mixture_value(about, numbers)])[0]


def pile_value(pile, numbers):
    """The value of the pile at the numbers by their names."""
    value = mixture_value(pile.mixture, numbers)
    for by, term in pile.terms:
        value = value + by * term_value(term, numbers)
    return value

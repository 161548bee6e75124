"""Piles that are made within the limits: of products, of what is counted, and of sums over ranges."""

from bitcounts.digit_rows import united
from bitcounts.errors import TooMany
from bitcounts.glances import look_at_line
from bitcounts.joins import binary_rank, seen_together, signs_of
from bitcounts.limits import NAMES, RANK, TOGETHER
from bitcounts.lines import (
    lines_of_machine, lines_system, lost_state, product_of_lines, summed_lines,
)
from bitcounts.mixed_rules import mixture_block
from bitcounts.mixtures import many_lines
from bitcounts.piles import (
    Added, Term, added_over, all_letters, depth_of, is_nothing, is_single, pile_lines, pile_names, pile_of_integer,
    pile_of_rule, pile_of_shape, single_pile, source_of_product,
)
from bitcounts.rules import rule_block, solved_rule, sum_system
from bitcounts.solving import least_basis, some_columns
from bitcounts.sources import Source, source_of_system, source_rank
from bitcounts.systems import System, told_apart

MOST_TERMS = 6
# With more states than these most ranks of what is measured of words of one name are too great.
MANY_LINES = 21
DEEPEST = 6
# More lines than any product has.
ALL_LINES = 1 << 60
# How many pairs of states, and some, are looked at to see that a rank is too great.
MOST_PAIRS = 100


def most_rank(pile, exact):
    """At least the rank; to be exact, the least rules of all terms are asked for theirs."""
    ranks = sum([len(term.told.starts) if exact else term.most for _, term in pile.terms])
    if pile.mixture.parts:
        return ranks + many_lines(pile.mixture)
    return ranks + (1 if pile.mixture.constant else 0)


def pile_of_product(pile, beside):
    """The pile of the product of two piles of no more than three names; TooMany is raised if a limit is exceeded."""
    most = most_rank(pile, False) * most_rank(beside, False)
    if most > RANK:
        most = pile.rank * beside.rank
        if most > TOGETHER:
            raise TooMany()
    if depth_of(pile) + depth_of(beside) >= DEEPEST:
        pile, beside = pile_of_rule(pile.rule, None), pile_of_rule(beside.rule, None)
    origin = source_of_product(pile, beside) if most > RANK else None
    names = all_letters([pile_names(pile), pile_names(beside)])
    most = source_rank(origin) if most > RANK else most
    return single_pile(Term(origin, names, most, ("times", (pile, beside)), 1 + depth_of(pile) + depth_of(beside)))


def held_system(machine):
    """The system of what is 1 where the test of the machine holds, 0 elsewhere; its lines are the classes."""
    moves = []
    for index in range(len(machine.ways[0])):
        moves.append([(1, way[index], 0) for way in machine.ways])
    return System("sum", [int(mark) for mark in machine.marks], moves, (0, ((1, 0),)), None)


def many_holding(machine):
    """How many states hold somewhere."""
    return len(machine.marks) - int(lost_state(machine) >= 0)


def pile_of_machine(machine, shape):
    """The pile of what is 1 where the test of the machine holds, 0 elsewhere; TooMany is raised as for all ranks."""
    if not machine.variables:
        return pile_of_integer(int(machine.marks[0]))
    if many_holding(machine) <= RANK:
        told = shape[0] == "held"
        system = None if told else lines_system(lines_of_machine(machine))
        origin = None if told else source_of_system(system, machine.variables)
        return pile_of_shape(origin, machine.variables, many_holding(machine), shape, 0)
    if binary_rank(signs_of(machine, machine.variables)) > RANK:
        raise TooMany()
    system = held_system(machine)
    # All lines are parts of the first one here, so the rank is the number of columns.
    known = some_columns(system)
    if len(known.found) > RANK:
        raise TooMany()
    names = machine.variables
    return pile_of_shape(Source(system, known, names, None), names, len(known.found), shape, 0)


def pile_of_system(system, names, shape):
    """The pile of what the system tells; TooMany is raised if its rank is greater than 16."""
    lines = len(told_apart(system, system.first))
    if lines <= RANK:
        return pile_of_shape(source_of_system(system, names), names, lines, shape, 0)
    if len(names) == 1 and len(system.first) > MANY_LINES:
        look_at_line(system)
    known = some_columns(system)
    if known.waiting or len(known.found) > RANK:
        return pile_of_rule(solved_rule(system, known, names), shape)
    return pile_of_shape(Source(system, known, names, None), names, len(known.found), shape, 0)


def pile_system(pile):
    """The system of the sum of the terms and the mixture, and all names."""
    blocks = [rule_block(term.told, by) for by, term in pile.terms]
    if pile.mixture.parts or pile.mixture.constant:
        return sum_system([*blocks, mixture_block(pile.mixture)])
    return sum_system(blocks)


def limited_pile(pile):
    """The pile, or one of a single term instead; TooMany is raised if its rank is greater than 16."""
    if len(pile.terms) <= MOST_TERMS and (most_rank(pile, False) <= RANK or most_rank(pile, True) <= RANK):
        return pile
    system, names = pile_system(pile)
    columns = some_columns(system)
    if len(pile.terms) <= MOST_TERMS and not columns.waiting and len(columns.found) <= RANK:
        return pile
    rule = solved_rule(system, columns, names)
    deep = 1 + depth_of(pile)
    shape = ("sum", pile) if deep <= DEEPEST and len(pile.terms) <= MOST_TERMS else None
    return pile_of_shape(rule, rule.variables, len(rule.starts), shape, deep if shape else 0)


def machine_rank(machine):
    """The rank of what is 1 where the machine holds."""
    # All lines are parts of the first one here, so the rank is the number of columns.
    return len(some_columns(lines_system(lines_of_machine(machine))).found)


def check_ranks(pile, machine):
    """TooMany is raised if the ranks of the pile and of what the machine tells have a product above 64."""
    if many_holding(machine) * most_rank(pile, False) > TOGETHER:
        held = held_machine(pile)
        least = pile.rank if held is None else binary_rank(signs_of(held, held.variables))
        if binary_rank(signs_of(machine, machine.variables)) * least > TOGETHER:
            raise TooMany()
        if machine_rank(machine) * pile.rank > TOGETHER:
            raise TooMany()


def held_machine(pile):
    """The machine of the test of which the pile is a multiple, None if it is no such pile."""
    if is_single(pile) and pile.terms[0][1].shape is not None and pile.terms[0][1].shape[0] == "held":
        return pile.terms[0][1].shape[1]
    return None


def look_at_both(machine, other):
    """TooMany is raised if the rank of what is 1 where both machines hold is seen to be greater than 16."""
    names = united(machine.variables, other.variables)
    signs, beside = signs_of(machine, names), signs_of(other, names)
    pairs = seen_together(machine, other, names, None, MOST_PAIRS).seen
    if binary_rank([one & beside[at] for one, row in zip(signs, pairs) for at in row]) > RANK:
        raise TooMany()


def look_at_ranks(machine, other):
    """TooMany is raised if the ranks of what both machines tell are seen to be too great, if they have many states."""
    if many_holding(machine) > RANK or many_holding(other) > RANK:
        rank = binary_rank(signs_of(machine, machine.variables))
        if rank > RANK or rank * binary_rank(signs_of(other, other.variables)) > TOGETHER:
            raise TooMany()


def check_summand(pile, machine, lines):
    """TooMany is raised if a limit does not allow the product of the pile, by its lines, and what the machine tells."""
    check_ranks(pile, machine)
    held = held_machine(pile)
    if held is not None:
        look_at_both(machine, held)
    product = product_of_lines(lines_of_machine(machine), lines, ALL_LINES)[0]
    known = some_columns(lines_system(product))
    if known.waiting or len(known.found) > RANK:
        _ = least_basis(lines_system(product), known, len(product.letters))


def pile_of_sum(pile, machine, lines, name):
    """The pile, with these lines, added up over all numbers of the name for which the machine holds."""
    made = summed_lines(machine, lines, name)
    many = len(made.starts)
    if many > RANK or many_holding(machine) * most_rank(pile, False) > TOGETHER:
        check_summand(pile, machine, lines)
    deep = 1 + depth_of(pile)
    # Too deep a summand is not kept.
    about = added_over(pile, machine, name, made) if deep <= DEEPEST else Added(None, (), made)
    most = many if many <= RANK else RANK
    return pile_of_shape(None, made.letters, most, ("added", about), deep if deep <= DEEPEST else 0)


def pile_of_total(pile, machine, name):
    """The pile added up over all numbers of the name for which the machine, that of an upper bound, holds.

    None if it, or the machine, is not told by few integer lines.
    """
    states = many_holding(machine)
    if states > RANK:
        return None
    if states == 0 or is_nothing(pile):
        return pile_of_integer(0)
    letters = all_letters([pile_names(pile), machine.variables, (name,)])
    lines = pile_lines(pile) if len(letters) <= NAMES else ()
    return pile_of_sum(pile, machine, lines[0], name) if lines else None

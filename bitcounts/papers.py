"""Claims about rules and machines and the certificates for them, as plain tuples."""

from bitcounts.digit_rows import united
from bitcounts.joins import GREATEST_PAIRS, paired
from bitcounts.machines import ALONE, Machine, least_numbers
from bitcounts.points import points_of, rows_between, tuples_of
from bitcounts.rows import fractions
from bitcounts.rules import rule_equations
from bitcounts.ties import least_difference, lines_together, relations_together


def plain_lines(rule):
    """The rule as a plain one, with its first line told."""
    size = len(rule.starts)
    lines = rule_equations(rule)
    sides = tuple([tuple([line[index] for line in lines]) for index in range(len(rule.sides))])
    told = tuple([(int(place == 0), 1) for place in range(size)])
    return rule.variables, sides, rule.starts, told


def span_of(lines, last):
    """The span of the lines up to a tuple, or for all tuples if it is None."""
    size = len(lines.letters)
    found = points_of(lines.system, size, last)
    many = len(found.codes)
    rows = []
    for told in rows_between(found, size):
        rows.append(tuple([None if row is None else fractions(row, many) for row in told]))
    return tuple(tuples_of(found, size)), tuple(rows)


def rule_paper(one, other):
    """Whether both formulas are the same, with the least tuple at which they part."""
    pairs = least_difference(one, other)
    lines = lines_together([one.rule, other.rule])
    claim = plain_lines(one.rule), plain_lines(other.rule)
    if pairs is None:
        return ("same", *claim), span_of(lines, None)
    return ("parting", *claim, pairs), span_of(lines, tuple([number for _, number in pairs]))


def relation_papers(formulas):
    """That the formulas add up to 0 by each row of their relations."""
    rows = relations_together(formulas)
    rules = [one.rule for one in formulas]
    plain = tuple([plain_lines(rule) for rule in rules])
    paper = span_of(lines_together(rules), None) if rows else None
    return tuple([(("relation", plain, row), paper) for row in rows])


def states_paper(machine, other):
    """Whether the second machine holds wherever the first one does, with the least tuple at which it does not."""
    names = united(machine.variables, other.variables)
    found, ways = paired(machine, other, names)
    claim = plain_states(machine), plain_states(other)
    marks = [machine.marks[state] and not other.marks[against] for state, against in found]
    least = least_numbers(Machine(names, ways, marks, ALONE))
    if least is None:
        return ("within", *claim), pairs_in_order(found)
    return ("outside", *claim, tuple(zip(names, least))), ()


def plain_states(machine):
    return machine.variables, machine.ways, machine.marks


def pairs_in_order(pairs):
    """The pairs of states, ascending."""
    codes = sorted([int(state * GREATEST_PAIRS + against) for state, against in pairs])
    return tuple([(code // GREATEST_PAIRS, code % GREATEST_PAIRS) for code in codes])

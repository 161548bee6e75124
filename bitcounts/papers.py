"""Claims about rules and machines and the certificates for them, as plain tuples."""

from bitcounts.digit_rows import digit_row, united
from bitcounts.machines import GREATEST_PAIRS, Machine, least_numbers, paired
from bitcounts.rows import fractions
from bitcounts.rules import rule_equations
from bitcounts.ties import first_difference, lines_together, points_of, relation_rows


def plain_lines(rule):
    """The rule as a plain one, with its first line told."""
    size = len(rule.starts)
    lines = rule_equations(rule)
    sides = tuple([tuple([line[index] for line in lines]) for index in range(len(rule.sides))])
    told = tuple([(int(place == 0), 1) for place in range(size)])
    return rule.variables, sides, rule.starts, told


def place_in_order(numbers):
    """By what tuples of numbers are ordered."""
    return max([int(number) for number in numbers], default=0).bit_length(), numbers


def is_ahead(numbers, other):
    return place_in_order(numbers) < place_in_order(other)


def behind(numbers, index):
    """The tuple 2 * x + e, for the digit row e with this number."""
    return tuple([2 * number + digit for number, digit in zip(numbers, digit_row(index, len(numbers)))])


def span_rows(points, spans, last):
    """For each point, for each digit row, the fractions of the points, or None from the last tuple on."""
    rows = []
    for at, point in enumerate(points):
        row = []
        for index, span in enumerate(spans):
            known = last is None or is_ahead(behind(point, index), last)
            row.append(fractions(span[at], len(points)) if known else None)
        rows.append(tuple(row))
    return tuple(rows)


def span_up_to(found, spans, last):
    """The span by what is found for lines, up to a tuple, or for all tuples if it is None."""
    points = tuple([numbers for _, numbers, _ in found if last is None or is_ahead(numbers, last)])
    return points, span_rows(points, spans, last)


def rule_paper(rule, other):
    """Whether both rules tell the same, with the least tuple at which they part."""
    lines = lines_together([rule, other])
    found, spans = points_of(lines)
    least = first_difference(lines, found)
    claim = plain_lines(rule), plain_lines(other)
    if least is None:
        return ("same", *claim), span_up_to(found, spans, None)
    return ("parting", *claim, tuple(zip(lines.variables, least))), span_up_to(found, spans, least)


def relation_papers(rules):
    """That the formulas add up to 0 by each row of their relations."""
    lines = lines_together(rules)
    found, spans = points_of(lines)
    plain = tuple([plain_lines(rule) for rule in rules])
    paper = span_up_to(found, spans, None)
    return tuple([(("relation", plain, row), paper) for row in relation_rows(lines, found)])


def states_paper(machine, other):
    """Whether the second machine holds wherever the first one does, with the least tuple at which it does not."""
    names = united(machine.variables, other.variables)
    found, ways = paired(machine, other, names, GREATEST_PAIRS)
    claim = plain_states(machine), plain_states(other)
    marks = [machine.marks[state] and not other.marks[against] for state, against in found]
    least = least_numbers(Machine(names, ways, marks))
    if least is None:
        return ("within", *claim), pairs_in_order(found)
    return ("outside", *claim, tuple(zip(names, least))), ()


def plain_states(machine):
    return machine.variables, machine.ways, machine.marks


def pairs_in_order(pairs):
    """The pairs of states, ascending."""
    codes = sorted([int(state * GREATEST_PAIRS + against) for state, against in pairs])
    return tuple([(code // GREATEST_PAIRS, code % GREATEST_PAIRS) for code in codes])

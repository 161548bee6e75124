"""The checker: whether a certificate shows that a claim is true, whoever made them."""

from bitcounts.limits import CLASSES
from bitcounts.plain_spans import adds_up, is_ahead, lines_of, values_at, values_of_span
from bitcounts.plain_values import (
    are_numbers_of, digit_rows_of, is_integer, is_machine, is_plain_rule, is_state, is_tuple_of, names_of_all,
    rows_of_own,
)

MOST_RULES = 6
MOST_PAIRS = 4096
GREATEST = 10 ** 50 * 10 ** 50


def accepts(claim, certificate):
    """Whether they are a claim and a certificate for it."""
    if not isinstance(claim, tuple) or not claim or not isinstance(claim[0], str):
        return False
    kind = claim[0]
    if kind == "relation":
        return len(claim) == 3 and accepts_relation(claim[1], claim[2], certificate)
    if kind in ("same", "within") and len(claim) == 3:
        return accepts_all(kind, claim[1], claim[2], certificate)
    if kind in ("apart", "parting", "outside") and len(claim) == 4:
        return accepts_one(kind, claim[1], claim[2], claim[3], certificate)
    return False


def accepts_all(kind, first, second, certificate):
    """Whether it is certified that something holds for all numbers."""
    if kind == "within":
        return accepts_within(first, second, certificate)
    return accepts_relation((first, second), (1, -1), certificate)


def accepts_one(kind, first, second, pairs, certificate):
    """Whether it is certified what happens at these numbers."""
    if kind == "outside":
        return is_tuple_of(certificate, 0) and holds_outside(first, second, pairs)
    if not is_plain_rule(first) or not is_plain_rule(second):
        return False
    lines = lines_of((first, second), (1, -1))
    if lines is None or not are_numbers_of(pairs, lines.letters):
        return False
    numbers = tuple([number for _, number in pairs])
    if adds_up(lines, values_at(lines, numbers)) == 0:
        return False
    if kind == "parting":
        return is_zero_at_points(lines, certificate, numbers)
    return is_tuple_of(certificate, 0) and all([number <= GREATEST for number in numbers])


def is_zero_at_points(lines, span, last):
    """Whether it is a span at whose points, all ahead of the tuple if there is one, what is claimed adds up to 0."""
    vectors = values_of_span(lines, span, last)
    if vectors is None:
        return False
    if last is not None and not all([is_ahead(point, last) for point in span[0]]):
        return False
    return all([adds_up(lines, values) == 0 for values in vectors])


def accepts_relation(rules, factors, certificate):
    """Whether it is certified that the plain rules times the factors add up to 0 for all numbers."""
    if not isinstance(rules, tuple) or not 1 <= len(rules) <= MOST_RULES or not is_tuple_of(factors, len(rules)):
        return False
    if not all([is_plain_rule(rule) for rule in rules]) or not all([is_integer(factor) for factor in factors]):
        return False
    lines = lines_of(rules, factors)
    return lines is not None and is_zero_at_points(lines, certificate, None)


def are_pairs_of_states(value, many, beside):
    """Whether it is a tuple of pairs of so many states and so many of another machine, ascending."""
    if not isinstance(value, tuple) or len(value) > MOST_PAIRS:
        return False
    if not all([is_tuple_of(pair, 2) and is_state(pair[0], many) and is_state(pair[1], beside) for pair in value]):
        return False
    return all([value[at] < value[at + 1] for at in range(len(value) - 1)])


def accepts_within(first, second, certificate):
    """Whether it is certified that the second machine holds wherever the first one does."""
    if not is_machine(first) or not is_machine(second):
        return False
    names = names_of_all([first[0], second[0]])
    if names is None or not are_pairs_of_states(certificate, len(first[1]), len(second[1])):
        return False
    known = {state * CLASSES + against: True for state, against in certificate}
    rows = list(zip(rows_of_own(first[0], names), rows_of_own(second[0], names)))
    for state, against in certificate:
        if first[2][state] and not second[2][against]:
            return False
        followers = [first[1][state][own] * CLASSES + second[1][against][beside] for own, beside in rows]
        if not all([follower in known for follower in followers]):
            return False
    return 0 in known


def holds_at(machine, names, indexes):
    """Whether the machine holds for the tuple, for these names, with these digit rows from the lowest place on."""
    own = rows_of_own(machine[0], names)
    state = 0
    for index in indexes:
        state = machine[1][state][own[index]]
    return machine[2][state]


def holds_outside(first, second, pairs):
    """Whether the first machine holds at these numbers and the second one does not."""
    if not is_machine(first) or not is_machine(second):
        return False
    names = names_of_all([first[0], second[0]])
    if names is None or not are_numbers_of(pairs, names):
        return False
    indexes = digit_rows_of([number for _, number in pairs])
    return holds_at(first, names, indexes) and not holds_at(second, names, indexes)

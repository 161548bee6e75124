"""The least rules of what is counted: ones and lengths of words, powers by their ones, and where tests hold."""

from bitcounts.glances import FEW, look_at_rank
from bitcounts.readings import lines_of_zero
from bitcounts.rows import applied, moved, row_behind
from bitcounts.rules import constant, minimal_rule, told_first
from bitcounts.spellings import spelled


class Measure:
    """Some integers that hang on the digits of an integer a, the first one being what is asked for.

    `rows` tells by which rows those of 2 * a and of 2 * a + 1 are made of those of a; `zero` and `minus_one`
    are those of 0 and -1. The `kind` is that of `worth`.
    """

    def __init__(self, kind, sides, zero, minus_one):
        self.kind = kind
        self.rows = sides
        self.zero = zero
        self.minus_one = minus_one


def ones_measure():
    """The ones of a, or of -a below 0; those of a, or of ~a below 0; 1 below 0; 1."""
    kept, one = (((2, 1),), 1), (((3, 1),), 1)
    even = (((0, 1),), 1), (((1, 1), (2, 1)), 1), kept, one
    odd = (((1, 1), (3, 1)), 1), (((1, 1), (2, -1), (3, 1)), 1), kept, one
    return Measure("ones", (even, odd), (0, 0, 0, 1), (1, 0, 1, 1))


def length_measure():
    """The length of a, or of -a below 0; that of a, or of ~a below 0; 1 for 0 alone; 1 for -1 alone; 1."""
    nothing, one = ((), 1), (((4, 1),), 1)
    even = (((0, 1), (2, -1), (4, 1)), 1), (((1, 1), (2, -1), (4, 1)), 1), (((2, 1),), 1), nothing, one
    odd = (((1, 1), (4, 1)), 1), (((1, 1), (3, -1), (4, 1)), 1), nothing, (((3, 1),), 1), one
    return Measure("length", (even, odd), (0, 0, 1, 0, 1), (1, 0, 0, 1, 1))


def power_measure(base):
    """The base to the ones of a, or of -a below 0; to those of a from 0 on, else 0; to those of ~a below 0, else 0."""
    same, more = (((1, 1),), 1), (((1, base),), 1)
    even = (((0, 1),), 1), same, (((2, base),), 1)
    odd = (((1, base), (2, base)), 1), more, (((2, 1),), 1)
    return Measure("power", (even, odd), (1, 1, 0), (base, 0, 1))


def measured_integer(measure, number):
    """All the integers of the measure for this one."""
    digits = []
    while number != 0 and number != -1:
        digits.append(number & 1)
        number = number >> 1
    values = measure.zero if number == 0 else measure.minus_one
    for digit in digits[::-1]:
        values = applied(measure.rows[digit], values)
    return values


def step_rows(measure, step):
    """The rows of the lines of a state, by its step."""
    follower, factor, digit = step
    size = len(measure.zero)
    if factor == 1:
        return [(((follower * size + place, 1),), 1) for place in range(size)]
    return [moved(row, follower * size) for row in measure.rows[digit]]


def measured(measure, rule, lag, beside):
    """The least rule of what is measured of the word, by this integer if it is one of the powers."""
    spelling = spelled(rule, lag)
    if len(spelling.steps) * len(measure.zero) > FEW:
        look_at_rank(measure.kind, spelling, spelled(constant(beside), 0), rule.variables)
    sides = []
    for index in range(len(rule.sides)):
        sides.append([row for steps in spelling.steps for row in step_rows(measure, steps[index])])
    starts = [value for values in spelling.worths for value in measured_integer(measure, values[0])]
    told = ((0, 1),), 1
    for place in range(spelling.known):
        told = row_behind(told, measure.rows[spelling.low >> place & 1])
    return minimal_rule(rule.variables, sides, starts, told)


def bulky_measure(kind, rule, lag):
    """The least rule of what is measured of the word with this least rule and lag, by the kinds of `measuring`."""
    if kind == "ones":
        return measured(ones_measure(), rule, lag, 0)
    if kind == "length":
        return measured(length_measure(), rule, lag, 0)
    if kind == "zero":
        sides, starts = lines_of_zero(rule, lag)
        return minimal_rule(rule.variables, sides, starts, told_first(starts))
    return measured(power_measure(kind), rule, lag, kind)

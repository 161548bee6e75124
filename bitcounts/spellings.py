"""Words spelled: told digit by digit, from the lowest place on, as the digits of their variables are.

The digit of a word at place j hangs only on the digits of its variables up to the place j + L, for a number L,
the lag of the word. The lag of a variable is 0; it is above 0 where digits were shifted out, below 0 where
zeros were shifted in. Words that are made of others digit by digit, with carries, have the greatest lag of these.
"""

from bitcounts.closures import closure
from bitcounts.rows import applied, combined
from bitcounts.rules import told_first

# What is read of the digits of a word if they are only told: nothing, at any of them.
NOTHING = ((0, 0),)
# More states than any word has.
ALL = 1 << 60


class Spelling:
    """How a word is spelled.

    Its `known` lowest digits are those of the number `low`, and the rest of the word is the state 0. The steps
    tell for each state, for each digit row e, (follower, factor, digit): the state at 2 * x + e is the digit
    and factor times the follower at x. The factor is 2, or 1, with the digit 0, as long as the lowest digit
    of the state hangs on further digits of the variables. `worths` has for each state its values at some
    points, that of zeros first, and `spans` for each digit row e the rows by which values at 2 * x + e are
    combinations of those at the points x.
    """

    def __init__(self, variables, known, low, steps, worths, spans):
        self.variables = variables
        self.known = known
        self.low = low
        self.steps = steps
        self.worths = worths
        self.spans = spans


def told_at_points(sides, starts, told):
    """The values of a sum of lines, by the row `told`, at tuples where the lines and 1 tell all of their values.

    The tuple of zeros is the first of them. Behind the values stand, for each digit row e, the rows by which
    the values at 2 * x + e are combinations of the values at x, for each x of these tuples.
    """
    one = (((len(starts), 1),), 1)
    points, spans = closure([(*side, one) for side in sides], (*starts, 1), True, len(starts) + 1)
    return tuple([combined(told, point[2]) for point in points]), spans


def lowest_digits(values, lag):
    """How many of a word's lowest digits are the same at all tuples, and their number."""
    known = -lag if lag < 0 else 0
    return known, values[0] & ((1 << known) - 1)


def without_digits(values, known, low):
    return tuple([(value - low) >> known for value in values])


def followed(span, state, turns):
    """The step of a state by one digit row: (follower, factor, digit).

    A state is a tuple of the values of a word at the points, the number of digits of the variables on which its
    lowest one hangs besides, and what was read of the word's digits. Without values it follows itself.
    """
    values, silent, read = state
    if values == ():
        return state, 2, 0
    part = applied(span, values)
    if silent > 0:
        return (tuple(part), silent - 1, read), 1, 0
    digit = part[0] & 1
    then = turns[read][digit]
    if turns[then] == ():
        return ((), 0, then), 2, 0
    return (without_digits(part, 1, digit), 0, then), 2, digit


def explored(spans, state, turns, most):
    """The states that come of one, in the order in which they do, and the steps of those that come first.

    `turns` tells what is read behind what was read, for each digit of the word; where this is settled, whatever
    follows, it is (). If there are more states than `most`, the steps of the last ones are left out.
    """
    found = [state]
    places = {state: 0}
    steps = []
    while len(steps) < len(found) <= most:
        current = found[len(steps)]
        row = []
        for span in spans:
            follower, factor, digit = followed(span, current, turns)
            if follower not in places:
                places[follower] = len(found)
                found.append(follower)
            row.append((places[follower], factor, digit))
        steps.append(tuple(row))
    return found, steps


def spelled(rule, lag):
    """The spelling of the word with this rule."""
    values, spans = told_at_points(rule.sides, rule.starts, told_first(rule.starts))
    known, low = lowest_digits(values, lag)
    state = without_digits(values, known, low), (lag if lag > 0 else 0), 0
    found, steps = explored(spans, state, NOTHING, ALL)
    return Spelling(rule.variables, known, low, steps, [worths for worths, _, _ in found], spans)

"""For which states of a spelling measuring takes further lines: states with equal ones share them.

A follower is told by the number of the state, or, where it does not matter which one it is, by a number below 0.
"""

from bitcounts.atoms import SILENT, falling_states
from bitcounts.machines import numbered
from bitcounts.measuring import Marks, ones_of

NOWHERE = -1
LABEL = -2


def groups_by(starts, rows):
    """For each state the number of its class, by what holds at first and the classes of those that follow."""
    groups, many = numbered(starts)
    before = 0
    while before < many:
        before = many
        groups, many = numbered([
            (group, *[groups[state] if state >= 0 else state for state in row]) for group, row in zip(groups, rows)])
    return groups


def first_ones(groups, states):
    """The places in a column of the first of these states of each class."""
    seen = {}
    for state in states:
        seen[groups[state]] = seen.get(groups[state], state + 1)
    return list(seen.values())


def changing(starts, rows, groups):
    """The states at which it still changes what holds."""
    return [at for at, row in enumerate(rows)
            if any([state < 0 and starts[at] != 0 or state >= 0 and groups[state] != groups[at] for state in row])]


def rows_equal(spelling, digit):
    """What follows each state for what has this digit at all places."""
    return [[follower if told == digit or told == SILENT else NOWHERE for follower, told in row]
            for row in spelling.steps]


def places_equal(spelling, number):
    """The places for where the states are 0 or -1, and the classes of the states by that."""
    starts = [int(start == number) for start in spelling.starts]
    rows = rows_equal(spelling, number & 1)
    groups = groups_by(starts, rows)
    return first_ones(groups, changing(starts, rows, groups)), groups


def places_steep(spelling, starts, even, labels, low):
    """As above, for what of the opposite is more, by what it is at 0 and the classes that an odd digit leads to."""
    rows = [[follower if told == even or told == SILENT else LABEL - labels[follower] for follower, told in row]
            for row in spelling.steps]
    return first_ones(groups_by(starts, rows), low)


def marks_of_ones(spelling, low):
    signs = [int(start < 0) for start in spelling.starts]
    rows = [[follower for follower, _ in row] for row in spelling.steps]
    groups = groups_by(signs, rows)
    starts = [(group, ones_of(-start) - ones_of(~start) if start < 0 else 0)
              for group, start in zip(groups, spelling.starts)]
    steep = places_steep(spelling, starts, 0, groups, low)
    return Marks(first_ones(groups, changing(signs, rows, groups)), steep, [], [])


def marks_of_lengths(spelling, low):
    naught, _ = places_equal(spelling, 0)
    if not low:
        return Marks([], [], naught, [])
    minus, groups = places_equal(spelling, -1)
    starts = [(-start).bit_length() - (~start).bit_length() if start < 0 else 0 for start in spelling.starts]
    return Marks([], places_steep(spelling, starts, 0, groups, low), naught, minus)


def marks_of(kind, spelling):
    """The marks by which something is measured of the states of a spelling."""
    low = falling_states(spelling.steps, spelling.starts)
    if kind == "ones":
        return marks_of_ones(spelling, low) if low else Marks([], [], [], [])
    if kind == "length":
        return marks_of_lengths(spelling, low)
    return Marks([at + 1 for at in low], [], [], [])

"""How the digits of mixtures follow, from the lowest place on, as the digits of their variables are told."""

from bitcounts.atoms import SILENT
from bitcounts.digit_rows import own_rows
from bitcounts.mixtures import common_zeros, is_plain, is_silent, mixture_names, tops_of


class Spelt:
    """How a mixture is told digit by digit, for the digit rows of all its names.

    Its `known` lowest digits are those of the number `low`; the rest of it is the first state of `steps` and `starts`,
    as for atoms. If there are too many states, `steps` is None.
    """

    def __init__(self, names, known, low, steps, starts):
        self.letters = names
        self.known = known
        self.low = low
        self.steps = steps
        self.starts = starts


def is_linear(mixture):
    """Whether all atoms are variables."""
    return all([is_plain(atom) for _, atom in mixture.parts])


def tops_of_rows(mixture, zeros, names):
    """For each digit row what a linear mixture, without so many of its lowest digits, adds at it."""
    return tops_of([(by >> zeros, atom) for by, atom in mixture.parts], names)


def linear_steps(tops, first, most):
    """The states of a linear mixture are integers beside its variables; None if there are more than `most`."""
    found = [first]
    places = {first: 0}
    steps = []
    while len(steps) < len(found):
        current = found[len(steps)]
        row = []
        for top in tops:
            total = current + top
            follower = total >> 1
            if follower not in places:
                places[follower] = len(found)
                found.append(follower)
            row.append((places[follower], total & 1))
        steps.append(row)
        if len(found) > most:
            return None, found
    return steps, found


def weighed(mixture, zeros, names):
    """For each atom its factor, its steps, and the numbers of its own digit rows."""
    return [(by >> zeros, atom.steps, own_rows(atom.variables, names)) for by, atom in mixture.parts]


def follower_of(current, parts, index):
    """The state (integer, states of atoms) that follows by the digit row, and the digit."""
    total = current[0]
    states = []
    for state, (by, steps, rows) in zip(current[1:], parts):
        follower, digit = steps[state][rows[index]]
        total = total + by * digit
        states.append(follower)
    return (total >> 1, *states), total & 1


def silent_follower(current, parts, index):
    """As above, where each atom has with its state how far it is ahead, and the digit may be silent."""
    total = current[0]
    states = []
    least = 1
    for at, (by, steps, rows) in enumerate(parts):
        state, ahead = current[2 * at + 1], current[2 * at + 2]
        follower, digit = steps[state][rows[index]]
        if digit == SILENT:
            least = 0 if ahead == 0 else least
        else:
            total = total + (by * digit << ahead)
            ahead = ahead + 1
        states.extend([follower, ahead])
    if least == 0:
        return (total, *states), SILENT
    shorter = [number - 1 if at & 1 else number for at, number in enumerate(states)]
    return (total >> 1, *shorter), total & 1


def walked(first, parts, many, silent, most):
    """The states that come of the first one and their steps; None for the steps if there are more than `most`."""
    found = [first]
    places = {first: 0}
    steps = []
    while len(steps) < len(found):
        current = found[len(steps)]
        row = []
        for index in range(many):
            follower, digit = silent_follower(current, parts, index) if silent else follower_of(current, parts, index)
            if follower not in places:
                places[follower] = len(found)
                found.append(follower)
            row.append((places[follower], digit))
        steps.append(row)
        if len(found) > most:
            return None, found
    return steps, found


def value_at_zero(state, mixture, zeros, silent):
    """The value at 0 of what is left in a state."""
    value = state[0]
    for at, (by, atom) in enumerate(mixture.parts):
        if silent:
            value = value + ((by >> zeros) * atom.starts[state[2 * at + 1]] << state[2 * at + 2])
        else:
            value = value + (by >> zeros) * atom.starts[state[at + 1]]
    return value


def first_state(mixture, zeros, silent):
    """The state of the mixture without so many of its lowest digits."""
    constant = mixture.constant >> zeros
    if silent:
        return (constant, *[0 for _ in mixture.parts for _ in (0, 1)])
    return (constant, *[0 for _ in mixture.parts])


def spelt_integer(number):
    found = [number]
    while found[-1] != 0 and found[-1] != -1:
        found.append(found[-1] >> 1)
    steps = [((at + 1 if at + 1 < len(found) else at, number & 1),) for at, number in enumerate(found)]
    return Spelt((), 0, 0, steps, found)


def spelt(mixture, most):
    """How the mixture is told digit by digit; it has no more than `most` states, or none are told."""
    if not mixture.parts:
        return spelt_integer(mixture.constant)
    names = mixture_names(mixture)
    zeros = common_zeros(mixture)
    low = mixture.constant & ((1 << zeros) - 1)
    if len(mixture.parts) == 1 and mixture.constant == low and mixture.parts[0][0] == 1 << zeros:
        atom = mixture.parts[0][1]
        return Spelt(names, zeros, low, atom.steps, atom.starts)
    if is_linear(mixture):
        steps, starts = linear_steps(tops_of_rows(mixture, zeros, names), mixture.constant >> zeros, most)
        return Spelt(names, zeros, low, steps, starts)
    silent = is_silent(mixture)
    parts = weighed(mixture, zeros, names)
    steps, states = walked(first_state(mixture, zeros, silent), parts, 1 << len(names), silent, most)
    return Spelt(names, zeros, low, steps, [value_at_zero(state, mixture, zeros, silent) for state in states])

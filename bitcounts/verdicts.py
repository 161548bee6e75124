"""Tests of mixtures: whether they are less than 0, equal to 0, or leave a rest, by the states of their digits."""

from bitcounts.atoms import SILENT
from bitcounts.errors import TooManyClasses
from bitcounts.limits import CLASSES
from bitcounts.machines import ALONE, Machine, everywhere, grouped, least_machine, never, without_idle
from bitcounts.mixtures import Mixture, common_zeros, is_silent, mixture_names
from bitcounts.rows import common_divisor
from bitcounts.walks import (
    first_state, follower_of, is_linear, silent_follower, tops_of_rows, value_at_zero, weighed,
)
from math import gcd

# How many states are found before it is asked whether they have too many classes, and how many times more before
# it is asked again.
FEW = 600
MORE = 4
# More states than any mixture has.
ALL = 1 << 60


def decided(holds):
    return everywhere() if holds else never()


def divided(mixture, by):
    """A linear mixture whose factors have this divisor, divided by it and rounded down."""
    return Mixture(mixture.constant // by, tuple([(factor // by, atom) for factor, atom in mixture.parts]))


class Bounds:
    """Beyond which integers, beside the variables of a linear mixture, nothing hangs on how far they are.

    `high` is whether all factors are above 0, `low` whether all are below, and `equal` whether it is asked where
    the mixture is 0, and not where it is less.
    """

    def __init__(self, mixture, equal):
        self.low = all([by < 0 for by, _ in mixture.parts])
        self.high = all([by > 0 for by, _ in mixture.parts])
        self.equal = equal


def kept_within(number, bounds):
    """The integer, or the one at the bound; None where the mixture is never 0."""
    if bounds.high and number > 0:
        return None if bounds.equal else 0
    if bounds.low and number < -1:
        return None if bounds.equal else -1
    if bounds.low and bounds.equal and number < 0:
        return None
    return number


def linear_ways(tops, first, bounds, most):
    """The integers that come of the first one, and which follow which by each digit row."""
    found = [first]
    places = {first: 0}
    ways = []
    while len(ways) < len(found) <= most:
        current = found[len(ways)]
        row = []
        for top in tops:
            total = None if current is None else current + top
            gone = total is None or bounds.equal and total & 1
            follower = None if gone else kept_within(total >> 1, bounds)
            if follower not in places:
                places[follower] = len(found)
                found.append(follower)
            row.append(places[follower])
        ways.append(tuple(row))
    return found, ways


def linear_marks(found, equal):
    if equal:
        return [number == 0 for number in found]
    return [number is not None and number < 0 for number in found]


def linear_machine(mixture, equal):
    """The machine of the test that a linear mixture is 0, or less than 0."""
    common = common_divisor([by for by, _ in mixture.parts])
    if equal and mixture.constant % common:
        return never()
    mixture = divided(mixture, common)
    bounds = Bounds(mixture, equal)
    names = mixture_names(mixture)
    tops = tops_of_rows(mixture, 0, names)
    first = kept_within(mixture.constant, bounds)
    # Otherwise different integers make different tests.
    doubtful = (bounds.low or bounds.high) and not any([by == 1 or by == -1 for by, _ in mixture.parts])
    most = FEW if doubtful else CLASSES
    while True:
        found, ways = linear_ways(tops, first, bounds, most)
        marks = linear_marks(found, equal)
        if not doubtful:
            if len(found) > CLASSES:
                raise TooManyClasses()
            return without_idle(names, ways, marks)
        groups = grouped(ways, marks)
        if groups is not None:
            return least_machine(names, ways, marks, groups)
        most = MORE * most


def digit_ways(first, parts, many, silent, equal, most):
    """The states that come of the first one, as `walked` finds them; None where the mixture is never 0."""
    found = [first]
    places = {first: 0}
    ways = []
    while len(ways) < len(found) <= most:
        current = found[len(ways)]
        row = []
        for index in range(many):
            follower = None
            if current is not None:
                then, digit = silent_follower(current, parts, index) if silent else follower_of(current, parts, index)
                follower = None if equal and digit == 1 else then
            if follower not in places:
                places[follower] = len(found)
                found.append(follower)
            row.append(places[follower])
        ways.append(tuple(row))
    return found, ways


def digit_machine(mixture, equal):
    """The machine of the test that a mixture is 0, or less than 0."""
    zeros = common_zeros(mixture)
    if equal and mixture.constant & ((1 << zeros) - 1):
        return never()
    names = mixture_names(mixture)
    silent = is_silent(mixture)
    parts = weighed(mixture, zeros, names)
    most = FEW
    while True:
        first = first_state(mixture, zeros, silent)
        found, ways = digit_ways(first, parts, 1 << len(names), silent, equal, most)
        values = [None if state is None else value_at_zero(state, mixture, zeros, silent) for state in found]
        marks = linear_marks(values, equal)
        groups = grouped(ways, marks)
        if groups is not None:
            return least_machine(names, ways, marks, groups)
        most = MORE * most


def states_of_zero(mixture):
    """A machine of the test that the mixture is 0, which is not the least one: states may come twice."""
    names = mixture_names(mixture)
    if is_linear(mixture):
        common = common_divisor([by for by, _ in mixture.parts])
        if mixture.constant % common:
            return never()
        mixture = divided(mixture, common)
        bounds = Bounds(mixture, True)
        first = kept_within(mixture.constant, bounds)
        found, ways = linear_ways(tops_of_rows(mixture, 0, names), first, bounds, ALL)
        return Machine(names, ways, linear_marks(found, True), ALONE)
    zeros, silent = common_zeros(mixture), is_silent(mixture)
    if mixture.constant & ((1 << zeros) - 1):
        return never()
    parts = weighed(mixture, zeros, names)
    found, ways = digit_ways(first_state(mixture, zeros, silent), parts, 1 << len(names), silent, True, ALL)
    values = [None if state is None else value_at_zero(state, mixture, zeros, silent) for state in found]
    return Machine(names, ways, linear_marks(values, True), ALONE)


def compared(mixture, equal):
    """The machine of the test that the mixture is 0, or, if `equal` is not asked, less than 0."""
    if not mixture.parts:
        return decided(mixture.constant == 0 if equal else mixture.constant < 0)
    return linear_machine(mixture, equal) if is_linear(mixture) else digit_machine(mixture, equal)


def rest_behind(modulus, rest, parts, states, index):
    """What (modulus, rest, states of atoms) follows by the digit row; None if there is no such rest, () if any is."""
    followers = []
    for state, (by, steps, rows) in zip(states, parts):
        follower, digit = steps[state][rows[index]]
        rest = rest - by * digit
        followers.append(follower)
    return rest_of_half(modulus, rest, followers)


def silent_rest_behind(modulus, rest, parts, states, index):
    """As above, where each atom has with its state how far it is ahead, and the digit may be silent."""
    followers = []
    for at, (by, steps, rows) in enumerate(parts):
        ahead = states[2 * at + 1]
        follower, digit = steps[states[2 * at]][rows[index]]
        if digit != SILENT:
            rest = rest - (by * digit << ahead)
            ahead = ahead + 1
        followers.extend([follower, ahead])
    if 0 in followers[1::2]:
        return (modulus, rest % modulus, *followers)
    return rest_of_half(modulus, rest, [number - (at & 1) for at, number in enumerate(followers)])


def rest_of_half(modulus, rest, followers):
    """The state in which twice what follows has this rest."""
    if modulus & 1:
        rest = rest % modulus
        return (modulus, (rest if rest & 1 == 0 else rest + modulus) >> 1, *followers)
    if rest & 1:
        return None
    return () if modulus == 2 else (modulus >> 1, (rest >> 1) % (modulus >> 1), *followers)


def rest_ways(first, parts, many, silent, most):
    found = [first]
    places = {first: 0}
    ways = []
    while len(ways) < len(found) <= most:
        current = found[len(ways)]
        row = []
        for index in range(many):
            follower = current
            if current and silent:
                follower = silent_rest_behind(current[0], current[1], parts, current[2:], index)
            elif current:
                follower = rest_behind(current[0], current[1], parts, current[2:], index)
            if follower not in places:
                places[follower] = len(found)
                found.append(follower)
            row.append(places[follower])
        ways.append(tuple(row))
    return found, ways


def rest_mark(state, mixture, silent):
    """Whether the rest is left at 0."""
    if not state:
        return state is not None
    if silent:
        states = list(zip(state[2::2], state[3::2]))
        value = sum([by * atom.starts[at] << ahead for (at, ahead), (by, atom) in zip(states, mixture.parts)])
    else:
        value = sum([by * atom.starts[at] for at, (by, atom) in zip(state[2:], mixture.parts)])
    return (value - state[1]) % state[0] == 0


def rest_machine(mixture, modulus, rest):
    """The machine of the test that the mixture divided by the modulus leaves this rest."""
    mixture = Mixture(mixture.constant, tuple([(by % modulus, atom) for by, atom in mixture.parts if by % modulus]))
    rest = rest - mixture.constant
    common = gcd(common_divisor([by for by, _ in mixture.parts]), modulus)
    if is_linear(mixture):
        if rest % common:
            return never()
        modulus, rest, mixture = modulus // common, rest // common, divided(Mixture(0, mixture.parts), common)
    if modulus == 1 or not mixture.parts:
        return decided(rest % modulus == 0)
    names = mixture_names(mixture)
    parts = weighed(mixture, 0, names)
    silent = is_silent(mixture)
    first = (modulus, rest % modulus, *[0 for _ in mixture.parts for _ in ((0, 1) if silent else (0,))])
    most = FEW
    while True:
        found, ways = rest_ways(first, parts, 1 << len(names), silent, most)
        marks = [rest_mark(state, mixture, silent) for state in found]
        groups = grouped(ways, marks)
        if groups is not None:
            return least_machine(names, ways, marks, groups)
        most = MORE * most

"""And, or, exclusive or of two mixtures, by the states in which their digits follow."""

from bitcounts.atoms import SILENT, atom_of, variable_atom
from bitcounts.digit_rows import own_rows, united
from bitcounts.evaluations import joined_value
from bitcounts.mixtures import Mixture, common_zeros, is_bulky
from bitcounts.walks import Spelt, spelt

# What the sign makes of two digits, by twice the first and the second one.
TABLES = {"&": (0, 0, 0, 1), "|": (0, 1, 1, 1), "^": (0, 1, 1, 0)}
# With more states, single digits of the words tell more quickly what is made of them.
MOST_STATES = 700
FARTHEST = 9


def even_steps(table, one, other, own, beside):
    """The pairs of states, and their steps, of words neither of which is ahead or silent."""
    found = [(0, 0)]
    places = {(0, 0): 0}
    steps = []
    pairs = list(zip(own, beside))
    while len(steps) < len(found):
        state, against = found[len(steps)]
        ways, ways_beside = one.steps[state], other.steps[against]
        row = []
        for index, index_beside in pairs:
            follower, digit = ways[index]
            then, digit_beside = ways_beside[index_beside]
            if (follower, then) not in places:
                places[follower, then] = len(found)
                found.append((follower, then))
            row.append((places[follower, then], table[2 * digit + digit_beside]))
        steps.append(row)
        if len(found) > MOST_STATES:
            return None, found
    return steps, found


def joined_ahead(table, ahead, kept, digit, digit_beside):
    """How far the first word is ahead behind these digits, its kept digits, or those of the other one, and a digit."""
    here, there = (ahead, 0) if ahead > 0 else (0, -ahead)
    first, second = (kept, 0) if ahead > 0 else (0, kept)
    if digit != SILENT:
        first, here = first + (digit << here), here + 1
    if digit_beside != SILENT:
        second, there = second + (digit_beside << there), there + 1
    if here == 0 or there == 0:
        return here - there, first + second, SILENT
    made = table[2 * (first & 1) + (second & 1)]
    return here - there, (first >> 1) + (second >> 1), made


def uneven_steps(table, one, other, rows, ahead, kept):
    """As above, where one of the words is ahead by some digits, which are kept."""
    found = [(0, 0, ahead, kept)]
    places = {found[0]: 0}
    steps = []
    while len(steps) < len(found):
        state, against, far, digits = found[len(steps)]
        row = []
        for index, index_beside in rows:
            follower, digit = one.steps[state][index]
            then, digit_beside = other.steps[against][index_beside]
            behind, left, made = joined_ahead(table, far, digits, digit, digit_beside)
            pair = follower, then, behind, left
            if pair not in places:
                places[pair] = len(found)
                found.append(pair)
            row.append((places[pair], made))
        steps.append(row)
        if len(found) > MOST_STATES:
            return None, found
    return steps, found


def pair_start(sign, one, other, pair):
    """The value at 0 of what is left in a pair of states."""
    state, against, ahead, kept = pair
    first, second = one.starts[state], other.starts[against]
    if ahead > 0:
        return joined_value(sign, (first << ahead) + kept, second)
    return joined_value(sign, first, (second << -ahead) + kept)


def lag_of(steps):
    """How many states are silent behind each other; it hangs on the place alone whether one is."""
    lag = 0
    state = 0
    for _ in steps:
        lag = lag + int(steps[state][0][1] == SILENT)
        state = steps[state][0][0]
    return lag


def aligned(mixture, known):
    """The spelling of a mixture; of an integer so many digits are known."""
    if mixture.parts:
        return spelt(mixture, MOST_STATES)
    made = spelt(Mixture(mixture.constant >> known, ()), MOST_STATES)
    return Spelt((), known, mixture.constant & ((1 << known) - 1), made.steps, made.starts)


def zeros_of(mixture):
    return common_zeros(mixture) if mixture.parts else 0


def pair_states(sign, one, other, names):
    """The steps of pairs of states and the values at 0, None for the steps if there are too many."""
    own, beside = own_rows(one.letters, names), own_rows(other.letters, names)
    ahead = one.known - other.known
    if ahead == 0 and lag_of(one.steps) == 0 and lag_of(other.steps) == 0:
        steps, found = even_steps(TABLES[sign], one, other, own, beside)
        return steps, [joined_value(sign, one.starts[state], other.starts[against]) for state, against in found]
    if not -FARTHEST <= ahead <= FARTHEST:
        return None, []
    kept = one.low >> other.known if ahead > 0 else other.low >> one.known
    steps, found = uneven_steps(TABLES[sign], one, other, list(zip(own, beside)), ahead, kept)
    return steps, [pair_start(sign, one, other, pair) for pair in found]


def cost_of(mixture):
    return 1 + sum([atom.cost for _, atom in mixture.parts])


def joined_mixtures(sign, mixture, other):
    """The mixture `&`, `|` or `^` the other one; None if it is not told by few states."""
    if not mixture.parts and not other.parts:
        return Mixture(joined_value(sign, mixture.constant, other.constant), ())
    if is_bulky(mixture) or is_bulky(other):
        return None
    one, two = aligned(mixture, zeros_of(other)), aligned(other, zeros_of(mixture))
    if one.steps is None or two.steps is None:
        return None
    names = united(one.letters, two.letters)
    steps, starts = pair_states(sign, one, two, names)
    if steps is None:
        return None
    known = one.known if one.known < two.known else two.known
    low = joined_value(sign, one.low, two.low) & ((1 << known) - 1)
    cost = cost_of(mixture) + cost_of(other)
    atom = atom_of(names, steps, starts, lag_of(steps), (sign, mixture, other, known), cost)
    return mixture_of_atom(atom, low, 1 << known)


def mixture_of_atom(atom, low, by):
    """So many times the atom and the number; an integer, a variable or its complement is told as such."""
    if not atom.variables:
        return Mixture(low + by * atom.starts[0], ())
    if atom.steps == (((0, 0), (0, 1)),):
        return Mixture(low, ((by, variable_atom(atom.variables[0])),))
    if atom.steps == (((0, 1), (0, 0)),):
        return Mixture(low - by, ((-by, variable_atom(atom.variables[0])),))
    return Mixture(low, ((by, atom),))

"""Atoms: what words are sums of multiples of, and the digits by which they are told.

An atom is a variable, one without its lowest digits, or what two words are joined to by and, or, exclusive or.
"""

from bitcounts.digit_rows import places_that_matter, rows_of_places
from bitcounts.machines import numbered

# Beyond so many things it is not kept how an atom was made.
GREATEST_COST = 40
# In the place of a digit that hangs on further digits of the variables.
SILENT = -1


class Atom:
    """A word that is told digit by digit, from the lowest place on.

    `steps` has for each state, for each digit row of its `variables`, the pair of the state that follows and the
    digit; the first one is the atom. As many states behind each other are silent as the atom has `lag`. `starts` are
    the values of the states at 0. All states and 1 are combinations of no more than `width` of them.

    `shape` tells how the atom was made, of so many things as `cost` tells, or is None; it has no other names than the
    atom. If there would be too many states, there are none, and `bulk` is its least rule, which is None otherwise.
    """

    def __init__(self, names, steps, starts, lag, width, shape, cost, bulk):
        self.variables = names
        self.steps = steps
        self.starts = starts
        self.lag = lag
        self.width = width
        self.shape = shape
        self.cost = cost
        self.bulk = bulk


def variable_atom(name):
    return Atom((name,), (((0, 0), (0, 1)),), (0,), 0, 2, ("name", name, 0), 1, None)


def halved_atom(name, times):
    """A variable without so many of its lowest digits."""
    silent = [((at + 1, SILENT), (at + 1, SILENT)) for at in range(times)]
    steps = (*silent, ((times, 0), (times, 1)))
    return Atom((name,), steps, tuple([0 for _ in steps]), times, times + 2, ("name", name, times), 1, None)


def bulky_atom(rule, lag):
    """An atom without states, by its least rule."""
    return Atom(rule.variables, (), (), lag, 1 + len(rule.starts), None, 1, rule)


def same_atoms(atom, other):
    if atom.bulk is not None or other.bulk is not None:
        return atom.bulk is not None and other.bulk is not None and same_bulk(atom.bulk, other.bulk)
    return atom.variables == other.variables and atom.starts == other.starts and atom.steps == other.steps


def same_bulk(rule, other):
    return rule.variables == other.variables and rule.starts == other.starts and rule.sides == other.sides


def groups_of(steps, starts):
    """For each state the number of its class: states of the same class are the same word."""
    groups, many = numbered([(start, *[digit for _, digit in row]) for start, row in zip(starts, steps)])
    before = 0
    while before < many < len(steps):
        before = many
        rows = [(group, *[groups[follower] for follower, _ in row]) for group, row in zip(groups, steps)]
        groups, many = numbered(rows)
    return groups, many


def merged(steps, starts):
    """The same first state with each word only once; the states are numbered as they come."""
    groups, many = groups_of(steps, starts)
    if many == len(steps):
        return steps, starts
    places = {}
    heads = []
    for at, group in enumerate(groups):
        if group not in places:
            places[group] = len(heads)
            heads.append(at)
    told = [[(places[groups[follower]], digit) for follower, digit in steps[head]] for head in heads]
    return told, [starts[head] for head in heads]


def without_idle_names(names, steps):
    """The names on which something hangs, and the steps for their digit rows alone."""
    size = len(names)
    columns = [[row[index] for row in steps] for index in range(1 << size)]
    places = places_that_matter(columns)
    if len(places) == size:
        return names, tuple([tuple(row) for row in steps])
    kept = rows_of_places(size, places)
    return tuple([names[place] for place in places]), tuple([tuple([row[index] for index in kept]) for row in steps])


def height_of(row, at, heights):
    """On how many lowest digits a state hangs by this row of steps, None if on all; those that follow are higher."""
    followers = [follower for follower, _ in row]
    alike = all([step == row[0] for step in row])
    if all([follower == at for follower in followers]):
        return 0 if alike else None
    if any([follower <= at for follower in followers]):
        return None
    most = max([int(heights[follower]) for follower in followers])
    return 0 if alike and most == 0 else most + 1


def rank_by_heights(atom):
    """The rank of a multiple of the atom and an integer if its states hang on different numbers of digits, else None.

    States that hang on different numbers of lowest digits are no combinations of others and 1; all of them are parts,
    and so are some integers, which are what is left behind all digits.
    """
    if atom.lag > 0 or atom.bulk is not None:
        return None
    found = [0 for _ in atom.steps]
    for at in reversed(range(len(atom.steps))):
        height = height_of(atom.steps[at], at, found)
        if height is None:
            return None
        found[at] = height
    known = {height: True for height in found if height > 0}
    return 1 + len(known) if len(known) == len([height for height in found if height > 0]) else None


def atom_of(names, steps, starts, lag, shape, cost):
    """The atom with these states, each word only once."""
    steps, starts = merged(steps, starts)
    used, kept = without_idle_names(names, steps)
    # A shape with names that have dropped out would want their numbers.
    told = shape if cost <= GREATEST_COST and len(used) == len(names) else None
    return Atom(used, kept, tuple(starts), lag, 1 + len(starts), told, cost, None)


def narrowed(atom, width):
    """The same atom, of which it is known that it has no more than this width."""
    return Atom(atom.variables, atom.steps, atom.starts, atom.lag, width, atom.shape, atom.cost, atom.bulk)


def falling_states(steps, starts):
    """The states that are less than 0 somewhere."""
    low = {at: True for at, start in enumerate(starts) if start < 0}
    grows = bool(low)
    while grows:
        found = [at for at, row in enumerate(steps)
                 if at not in low and any([follower in low for follower, _ in row])]
        low = {**low, **{at: True for at in found}}
        grows = bool(found)
    return sorted([int(at) for at in low])

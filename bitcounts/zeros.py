"""Whether piles are 0 everywhere."""

from bitcounts.digit_rows import own_rows
from bitcounts.limits import NAMES
from bitcounts.machines import same_machines
from bitcounts.piles import (
    SOME_NUMBERS, Pile, Term, all_letters, is_nothing, pile_names, pile_of_integer, pile_value, piled, scaled_pile,
    single_pile,
)
from bitcounts.solving import vanishes

# How many tuples of states are looked at.
MOST_TUPLES = 50
# The kinds of terms that are told by integer lines, or by piles.
KINDS_BY_LINES = ("held", "added", "sum", "times")


def same_ranges(ranges, others):
    if len(ranges) != len(others):
        return False
    return all([one[0] == other[0] and same_machines(one[1], other[1]) for one, other in zip(ranges, others)])


class Sums:
    """The terms of a pile that are added up over some ranges, each with its factor, and what is added up in all."""

    def __init__(self, ranges, members, summand):
        self.ranges = ranges
        self.members = members
        self.summand = summand


def sums_of(pile):
    """All terms that are no sums over ranges, and for the others those over equal ranges together."""
    others = []
    found = []
    for by, term in pile.terms:
        if term.shape is None or term.shape[0] != "added" or term.shape[1].summand is None:
            others.append((by, term))
            continue
        about = term.shape[1]
        places = [at for at, sums in enumerate(found) if same_ranges(sums.ranges, about.ranges)]
        if places:
            sums = found[places[0]]
            summand = piled(sums.summand, about.summand, by)
            found[places[0]] = Sums(sums.ranges, [*sums.members, (by, term)], summand)
        else:
            found.append(Sums(about.ranges, [(by, term)], scaled_pile(about.summand, by)))
    return others, found


def held_machines(pile):
    """The machines of the tests by which the pile is told."""
    found = []
    for _, term in pile.terms:
        kind, about = (None, None) if term.shape is None else term.shape
        more = [about] if kind == "held" else []
        if kind == "sum":
            more = held_machines(about)
        if kind == "times":
            more = [*held_machines(about[0]), *held_machines(about[1])]
        found.extend([one for one in more if not any([same_machines(one, other) for other in found])])
    return found


def marked_term(term, machines, marks):
    """The term as a pile, where these machines hold or not, as their marks tell."""
    kind, about = (None, None) if term.shape is None else term.shape
    if kind == "held":
        return pile_of_integer([int(mark) for one, mark in zip(machines, marks) if same_machines(one, about)][0])
    if kind == "sum":
        return marked_pile(about, machines, marks)
    if kind != "times":
        return single_pile(term)
    one, other = marked_pile(about[0], machines, marks), marked_pile(about[1], machines, marks)
    for pile, beside in ((one, other), (other, one)):
        if not pile.terms and not pile.mixture.parts:
            return scaled_pile(beside, pile.mixture.constant)
    return single_pile(Term(None, term.letters, term.most, ("times", (one, other)), term.deep))


def marked_pile(pile, machines, marks):
    made = Pile(pile.mixture, ())
    for by, term in pile.terms:
        made = piled(made, marked_term(term, machines, marks), by)
    return made


def kinds_of(pile):
    """The kinds of the terms, each once."""
    return {None if term.shape is None else term.shape[0]: True for _, term in pile.terms}


def is_zero_by_marks(pile):
    """Whether it is seen that the pile is 0 by where its tests hold together."""
    kinds = kinds_of(pile)
    if "times" not in kinds and "sum" not in kinds and (pile.mixture.parts or len(kinds) > 1):
        # Nothing is there with which what is no test could add up to 0.
        return False
    machines = held_machines(pile)
    if not machines:
        return False
    names = all_letters([one.variables for one in machines])
    rows = [own_rows(one.variables, names) for one in machines]
    found = [tuple([0 for _ in machines])]
    known = {found[0]: True}
    seen = {}
    at = 0
    while at < len(found) <= MOST_TUPLES:
        states = found[at]
        at += 1
        marks = tuple([one.marks[state] for one, state in zip(machines, states)])
        if marks not in seen and not is_nothing(marked_pile(pile, machines, marks)):
            return False
        seen[marks] = True
        ways = [one.ways[state] for one, state in zip(machines, states)]
        for index in range(1 << len(names)):
            then = tuple([way[own[index]] for way, own in zip(ways, rows)])
            if then not in known:
                known[then] = True
                found.append(then)
    return at == len(found)


def is_zero(pile):
    """Whether the pile, of no more than three names, is 0 everywhere."""
    if is_nothing(pile):
        return True
    others, sums = sums_of(pile)
    sums = [one for one in sums if not is_nothing(one.summand)]
    left = Pile(pile.mixture, (*others, *[pair for one in sums for pair in one.members]))
    if is_nothing(left):
        return True
    # What is measured is compared slowly.
    for at in (0, 1) if any([kind not in KINDS_BY_LINES for kind in kinds_of(left)]) else (0,):
        if pile_value(left, {name: pair[at] for name, pair in zip(pile_names(left), SOME_NUMBERS)}) != 0:
            return False
    sums = [one for one in sums if len(one.members) < 2 or not is_zero_summand(one.summand)]
    left = Pile(pile.mixture, (*others, *[pair for one in sums for pair in one.members]))
    return is_nothing(left) or is_zero_by_marks(left) or vanishes(left.source.system)


def is_zero_summand(pile):
    return len(pile_names(pile)) <= NAMES and is_zero(pile)

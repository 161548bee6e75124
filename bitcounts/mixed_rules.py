"""Systems of mixtures and of what is measured of them, and the least rules of mixtures."""

from bitcounts.digit_rows import own_rows
from bitcounts.marking import marks_of
from bitcounts.mixtures import is_bulky, mixture_names, parted, tops_of
from bitcounts.rules import Block, constant, linear_rule, solved_rule
from bitcounts.systems import System
from bitcounts.walks import is_linear


def line_move(steps, by, row):
    """What the lines of an atom, behind so many others, are at a digit row of its own with this number."""
    moves = []
    for ways in steps:
        follower, digit = ways[row]
        moves.append((1, follower + by, 0) if digit < 0 else (2, follower + by, digit))
    return moves


def mixture_system(mixture, names):
    """The system of the lines 1, the sum of the variables by their factors, and the states of all other atoms."""
    linear, others = parted(mixture)
    first = [1]
    moves = [[(1, 0, 0)] for _ in range(1 << len(names))]
    pairs = []
    if linear:
        moves = [[*move, (2, 1, top)] for move, top in zip(moves, tops_of(linear, names))]
        pairs.append((1, 1))
        first.append(0)
    for by, atom in others:
        rows = own_rows(atom.variables, names)
        moves = [[*move, *line_move(atom.steps, len(first), index)] for move, index in zip(moves, rows)]
        pairs.append((by, len(first)))
        first.extend(atom.starts)
    return System("sum", first, moves, (mixture.constant, tuple(pairs)), None)


def mixture_rule(mixture):
    """The least rule of a mixture without bulky atoms; TooMany is raised if its rank is greater than 16."""
    if not mixture.parts:
        return constant(mixture.constant)
    names = mixture_names(mixture)
    if is_linear(mixture):
        return linear_rule(names, mixture.constant, tops_of(mixture.parts, names))
    return solved_rule(mixture_system(mixture, names), None, names)


def word_rule(mixture):
    """The least rule of a mixture; a bulky atom stands alone in it."""
    if is_bulky(mixture):
        return mixture.parts[0][1].bulk
    return mixture_rule(mixture)


def measured_system(kind, spelling):
    """The system of what is measured of a mixture, by its spelling."""
    moves = []
    for index in range(1 << len(spelling.letters)):
        moves.append([(1, 0, 0), *line_move(spelling.steps, 1, index)])
    part = spelling.low, ((1 << spelling.known, 1),)
    return System(kind, [1, *spelling.starts], moves, part, marks_of(kind, spelling))


def row_of_line(line):
    """The row of a line by its factor, place and addend; 1 is the first line."""
    factor, place, addend = line
    return (((0, addend), (place, factor)) if addend else ((place, factor),)), 1


def mixture_block(mixture):
    """The lines of a mixture, with rows of fractions."""
    names = mixture_names(mixture)
    system = mixture_system(mixture, names)
    sides = [[row_of_line(line) for line in move] for move in system.moves]
    addend, pairs = system.part
    told = [(place, factor) for factor, place in pairs]
    return Block(names, sides, system.first, [(0, addend), *told] if addend else told)

"""Lines of integers: functions whose values at 2 * x + e are sums of multiples of those at x, for each digit row e."""

from bitcounts.digit_rows import digit_indexes, own_rows, united
from bitcounts.mixtures import mixture_names, parted, tops_of
from bitcounts.rows import common_divisor
from bitcounts.systems import System


class Lines:
    """The lines of a formula, as functions of its `letters`, which are names.

    `starts` are their values at 0. `moves` has for each digit row, for each line, the pairs of a place and a factor:
    the line at 2 * x + e is the sum of so many times the lines at these places at x. `part` has such pairs, too, and
    tells the formula.
    """

    def __init__(self, names, starts, moves, told):
        self.letters = names
        self.starts = starts
        self.moves = moves
        self.part = told


def same_lines(lines, other):
    """Whether it is seen at once that both formulas are the same."""
    if lines.letters != other.letters or lines.starts != other.starts or lines.part != other.part:
        return False
    return lines.moves == other.moves


def lines_system(lines):
    return System("lines", lines.starts, lines.moves, lines.part, None)


def lines_value(lines, numbers):
    """The value at these numbers, one for each name."""
    values = lines.starts
    for index in digit_indexes(numbers)[::-1]:
        values = [sum([by * values[place] for place, by in row]) for row in lines.moves[index]]
    return sum([by * values[place] for place, by in lines.part])


def atom_moves(atom, names, by):
    """For each digit row of these names the pairs for the states of the atom, behind so many lines, the first one 1."""
    told = []
    for index in range(1 << len(atom.variables)):
        move = []
        for way in atom.steps:
            follower, digit = way[index]
            if digit == 1:
                move.append(((0, 1), (follower + by, 2)))
            else:
                move.append(((follower + by, 2 if digit == 0 else 1),))
        told.append(move)
    return [told[index] for index in own_rows(atom.variables, names)]


def lines_of_mixture(mixture):
    """The lines 1, the sum of all multiples of variables, without their common factor, and the states of atoms."""
    names = mixture_names(mixture)
    linear, others = parted(mixture)
    moves = [[((0, 1),)] for _ in range(1 << len(names))]
    starts = [1]
    part = []
    if mixture.constant:
        part.append((0, mixture.constant))
    if linear:
        common = common_divisor([by for by, _ in linear])
        tops = [top // common for top in tops_of(linear, names)]
        # The same for all orders of the pairs.
        if [top for top in tops if top][0] < 0:
            common, tops = -common, [-top for top in tops]
        moves = [[*move, ((0, top), (1, 2)) if top else ((1, 2),)] for move, top in zip(moves, tops)]
        starts.append(0)
        part.append((1, common))
    for by, atom in others:
        moves = [[*move, *more] for move, more in zip(moves, atom_moves(atom, names, len(starts)))]
        part.append((len(starts), by))
        starts.extend(atom.starts)
    return Lines(names, starts, moves, tuple(part))


def lost_state(machine):
    """The state that never holds, -1 if there is none."""
    for at, (way, mark) in enumerate(zip(machine.ways, machine.marks)):
        if not mark and all([follower == at for follower in way]):
            return at
    return -1


def lines_of_machine(machine):
    """The lines that are 1 where the states hold, 0 elsewhere."""
    lost = lost_state(machine)
    # The state that never holds has no line.
    lines = [() if at == lost else ((at - int(at > lost >= 0), 1),) for at in range(len(machine.ways))]
    kept = [at for at in range(len(machine.ways)) if at != lost]
    moves = [[lines[machine.ways[at][index]] for at in kept] for index in range(len(machine.ways[0]))]
    return Lines(machine.variables, [int(machine.marks[at]) for at in kept], moves, lines[0])


def scaled_lines(lines, factor):
    return Lines(lines.letters, lines.starts, lines.moves, tuple([(place, factor * by) for place, by in lines.part]))


def lines_behind(lines, other, factor):
    """The sum of the formula and so many times the other one: the lines of both, one behind the other."""
    names = united(lines.letters, other.letters)
    size = len(lines.starts)
    moves = []
    for own, beside in zip(own_rows(lines.letters, names), own_rows(other.letters, names)):
        more = [tuple([(place + size, by) for place, by in row]) for row in other.moves[beside]]
        moves.append([*lines.moves[own], *more])
    told = (*lines.part, *[(place + size, factor * by) for place, by in other.part])
    return Lines(names, [*lines.starts, *other.starts], moves, told)


def product_row(pairs, beside, size, alike):
    """The factors of products of two lines, by their codes: those of the product of sums of lines by these pairs."""
    sums = {}
    for place, by in pairs:
        for other, factor in beside:
            code = other * size + place if alike and other < place else place * size + other
            sums[code] = sums.get(code, 0) + by * factor
    return {code: sums[code] for code in sums if sums[code]}


def by_rows(table, many):
    """For each digit row the list of what the table has for it for each line."""
    return [[row[index] for row in table] for index in range(many)]


def product_of_lines(lines, other, most):
    """The lines of the product, alone in a tuple: products of lines, as far as they come up.

    The tuple is empty if there are more than `most` lines.
    """
    names = united(lines.letters, other.letters)
    rows = list(zip(own_rows(lines.letters, names), own_rows(other.letters, names)))
    alike = lines.letters == other.letters and lines.starts == other.starts and lines.moves == other.moves
    size = len(other.starts)
    first = product_row(lines.part, other.part, size, alike)
    codes = list(first)
    places = {code: at for at, code in enumerate(codes)}
    table = []
    while len(table) < len(codes):
        at, against = codes[len(table)] // size, codes[len(table)] % size
        told = []
        for own, beside in rows:
            sums = product_row(lines.moves[own][at], other.moves[beside][against], size, alike)
            for code in sums:
                if code not in places:
                    places[code] = len(codes)
                    codes.append(code)
            told.append(tuple([(places[code], sums[code]) for code in sums]))
        table.append(told)
        if len(codes) > most:
            return ()
    starts = [lines.starts[code // size] * other.starts[code % size] for code in codes]
    part = tuple([(places[code], first[code]) for code in first])
    return (Lines(names, starts, by_rows(table, len(rows)), part),)


def both_digits(names, name):
    """The numbers of the digit rows that have 0 for the name, each with that of the row that has 1 instead."""
    bit = 0
    for other in names:
        bit = 1 if other == name else 2 * bit
    return [(index, index + bit) for index in range(1 << len(names)) if index & bit == 0]


def settled_starts(starts, moves):
    """The sums of the lines where all other variables are 0.

    What is added up for all numbers with ever more digits does not change any more at last: the machine holds for
    finitely many numbers only.
    """
    sums = starts
    while True:
        more = [sum([by * sums[place] for place, by in row]) for row in moves]
        if more == sums:
            return sums
        sums = more


def summed_lines(machine, lines, name):
    """The lines of the sum of the formula over all numbers of the name for which the machine holds.

    For each other variable's value there are finitely many such numbers. The lines are pairs of a state of the
    machine and a line.
    """
    names = united(united(machine.variables, lines.letters), (name,))
    own, beside = own_rows(machine.variables, names), own_rows(lines.letters, names)
    rows = [((own[even], beside[even]), (own[odd], beside[odd])) for even, odd in both_digits(names, name)]
    size, lost = len(lines.starts), lost_state(machine)
    codes = [place for place, _ in lines.part]
    places = {code: at for at, code in enumerate(codes)}
    table = []
    while len(table) < len(codes):
        way, line = machine.ways[codes[len(table)] // size], codes[len(table)] % size
        told = []
        for both in rows:
            sums = {}
            for index, index_beside in both:
                if way[index] != lost:
                    ahead = way[index] * size
                    for place, by in lines.moves[index_beside][line]:
                        sums[ahead + place] = sums.get(ahead + place, 0) + by
            for code in sums:
                if code not in places and sums[code]:
                    places[code] = len(codes)
                    codes.append(code)
            told.append(tuple([(places[code], sums[code]) for code in sums if sums[code]]))
        table.append(told)
    starts = [lines.starts[code % size] if machine.marks[code // size] else 0 for code in codes]
    moves = by_rows(table, len(rows))
    part = tuple([(at, by) for at, (_, by) in enumerate(lines.part)])
    left = tuple([other for other in names if other != name])
    return Lines(left, settled_starts(starts, moves[0]), moves, part)

"""What tells a formula: systems of lines, by kinds.

A formula is told by lines, functions of its names, whose values at 2 * x + e are made of those at x by a move for each
digit row e. A column has the values of all lines at a tuple; parts of the formula are told by its lines.

Of columns there are three kinds. Those of words have moves of triples (factor, place, addend), one for each line:
factor times the line at the place, and the addend more. A part of these is a pair (addend, pairs): the addend, and
factor times the line for each pair (factor, place); what is measured of that is the part. Columns of integer lines have
moves of tuples of pairs (place, factor), one for each line, and such a tuple is a part. Columns of fraction lines have
sides of rows as moves, and their parts are rows.
"""

from bitcounts.digit_rows import own_rows
from bitcounts.measuring import lines_measured, measured_numbers
from bitcounts.rows import applied, row_behind


class System:
    """What tells a formula: its `kind`, the column at 0, the moves for each digit row, and its first part.

    The kind is "rows" for fraction lines, "lines" for integer lines, and for words "sum" or what is measured of their
    sums. What is measured hangs on the `marks` of lines besides, as `lines_measured` takes them. For a "product" of two
    formulas there are pairs of columns, moves and parts; for a "grid", whose names are different ones, a pair of lists
    of columns, each of the one belonging to each of the other. The `marks` of both are the two systems and whether they
    are alike but for their parts. For a sum of "several" formulas there are lists of columns, moves and parts, and the
    `marks` are pairs of a factor and a system.
    """

    def __init__(self, kind, first, moves, part, marks):
        self.kind = kind
        self.first = first
        self.moves = moves
        self.part = part
        self.marks = marks


def several_system(pieces, names):
    """The system of the sum of formulas, by tuples of a factor, a system and the names of that."""
    rows = [own_rows(letters, names) for _, _, letters in pieces]
    moves = []
    for index in range(1 << len(names)):
        moves.append([one.moves[own[index]] for (_, one, _), own in zip(pieces, rows)])
    first, part = [one.first for _, one, _ in pieces], [one.part for _, one, _ in pieces]
    return System("several", first, moves, part, [(by, one) for by, one, _ in pieces])


def alike_systems(system, other):
    """Whether it is seen at once that both have the same lines, which are told apart by their values alone."""
    if system.kind != other.kind or system.kind != "sum" and system.kind != "lines":
        return False
    return system.first == other.first and system.moves == other.moves


def system_of_product(system, own, other, beside, names):
    """The system of the product of both, which have these names."""
    rows = list(zip(own_rows(own, names), own_rows(beside, names)))
    moves = [(system.moves[index], other.moves[index_beside]) for index, index_beside in rows]
    first, part = (system.first, other.first), (system.part, other.part)
    return System("product", first, moves, part, (system, other, own == beside and alike_systems(system, other)))


def as_grid(system):
    """The system of a product whose names are different ones, as that of a grid."""
    return System("grid", None, system.moves, system.part, system.marks)


def width_of(system):
    """How many numbers tell columns apart."""
    return len(told_apart(system, system.first))


def moved_column(system, column, move):
    kind = system.kind
    if kind == "lines":
        return [row[0][1] * column[row[0][0]] if len(row) == 1 else sum([by * column[place] for place, by in row])
                for row in move]
    if kind == "rows":
        return applied(move, column)
    if kind == "product":
        one, other, _ = system.marks
        return moved_column(one, column[0], move[0]), moved_column(other, column[1], move[1])
    if kind == "several":
        return [moved_column(one, own, own_move) for (_, one), own, own_move in zip(system.marks, column, move)]
    return [factor * column[place] + addend for factor, place, addend in move]


def told_apart(system, column):
    """The numbers by which columns are told apart."""
    if system.kind == "rows" or system.kind == "sum" or system.kind == "lines":
        return column
    if system.kind == "several":
        return [number for (_, one), own in zip(system.marks, column) for number in told_apart(one, own)]
    if system.kind == "product":
        one, other, alike = system.marks
        first, second = told_apart(one, column[0]), told_apart(other, column[1])
        if alike:
            return [number * beside for at, number in enumerate(first) for beside in second[at:]]
        return [number * beside for number in first for beside in second]
    return lines_measured(system.kind, column, system.marks)


def pairs_behind(pairs, move):
    """The sum of the multiples of lines that the sum of such is at 2 * x + e."""
    if len(pairs) == 1 and pairs[0][1] == 1:
        return move[pairs[0][0]]
    sums = {}
    for place, by in pairs:
        for follower, factor in move[place]:
            sums[follower] = sums.get(follower, 0) + by * factor
    return tuple([(place, sums[place]) for place in sums])


def part_behind(system, part, move):
    """The part that the part is at 2 * x + e, by the move of the digit row e."""
    kind = system.kind
    if kind == "lines":
        return pairs_behind(part, move)
    if kind == "rows":
        return row_behind(part, move)
    if kind == "product" or kind == "grid":
        one, other, _ = system.marks
        return part_behind(one, part[0], move[0]), part_behind(other, part[1], move[1])
    if kind == "several":
        return [part_behind(one, own, own_move) for (_, one), own, own_move in zip(system.marks, part, move)]
    addend, pairs = part
    if len(pairs) == 1:
        own, first = pairs[0]
        factor, follower, more = move[first]
        return addend + own * more, ((own * factor, follower),)
    addend = addend + sum([by * move[place][2] for by, place in pairs])
    return addend, tuple([(by * move[place][0], move[place][1]) for by, place in pairs])


def row_values(row, columns):
    pairs, bottom = row
    if bottom != 1:
        return [sum([top * column[place] for place, top in pairs]) // bottom for column in columns]
    if len(pairs) == 1:
        first, factor = pairs[0]
        return [factor * column[first] for column in columns]
    return [sum([top * column[place] for place, top in pairs]) for column in columns]


def values_of_product(system, part, columns):
    one, other, _ = system.marks
    if system.kind == "grid":
        beside = part_values(other, part[1], columns[1])
        return [number * by for number in part_values(one, part[0], columns[0]) for by in beside]
    beside = part_values(other, part[1], [column[1] for column in columns])
    numbers = part_values(one, part[0], [column[0] for column in columns])
    return [number * by for number, by in zip(numbers, beside)]


def values_of_several(system, parts, columns):
    values = [0 for _ in columns]
    for at, (by, one) in enumerate(system.marks):
        own = part_values(one, parts[at], [column[at] for column in columns])
        values = [value + by * number for value, number in zip(values, own)]
    return values


def part_values(system, part, columns):
    """The values of the part at the tuples of the columns."""
    kind = system.kind
    if kind == "lines":
        return [sum([by * column[place] for place, by in part]) for column in columns]
    if kind == "rows":
        return row_values(part, columns)
    if kind == "several":
        return values_of_several(system, part, columns)
    if kind == "product" or kind == "grid":
        return values_of_product(system, part, columns)
    addend, pairs = part
    if len(pairs) == 1:
        factor, first = pairs[0]
        numbers = [addend + factor * column[first] for column in columns]
    else:
        numbers = [addend + sum([by * column[place] for by, place in pairs]) for column in columns]
    return numbers if kind == "sum" else measured_numbers(kind, numbers)

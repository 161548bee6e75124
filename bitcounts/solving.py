"""Least rules worked out from the values of lines at some tuples.

A formula is told by lines, functions of its names, whose values at 2 * x + e are made of those at x by a move for each
digit row e. First come columns, the values of all lines at tuples: as many as are no combinations of others. Then
come the parts of the formula, by their values at the tuples of these columns.
"""

from bitcounts.digit_rows import digit_row, places_that_matter, rows_of_places
from bitcounts.errors import TooMany
from bitcounts.limits import RANK
from bitcounts.rows import row_of, shortest
from bitcounts.systems import moved_column, part_behind, part_values, told_apart
from math import gcd, lcm

# With more columns than the greatest rank, how many are found before the rank is looked at, and how many times more
# before it is looked at again.
SOME = 24
MORE = 2
# How far apart the numbers of a tuple stand in its code; the order of codes is that of tuples.
WIDTH = 80


class Table:
    """What is known of some vectors that are no combinations of others.

    The `rows` are as many combinations of them, and for each of them there is a place in `pivots`: there it is not 0,
    and all later ones are. All vectors are combinations of them if the table is `full`.
    """

    def __init__(self, pivots, rows, full):
        self.pivots = pivots
        self.rows = rows
        self.full = full


def empty_table(width):
    return Table([], [], width == 0)


def rests_of(vector, table):
    """The vector, or a multiple, without the multiples of the table's rows: 0 if it is a combination of them."""
    for place, row in zip(table.pivots, table.rows):
        top = vector[place]
        if top:
            pivot = row[place]
            if top % pivot == 0:
                by = top // pivot
                vector = [number - by * beside for number, beside in zip(vector, row)]
            else:
                common = gcd(top, pivot)
                kept, by = pivot // common, top // common
                vector = [kept * number - by * beside for number, beside in zip(vector, row)]
    return vector


def widened_table(table, rests):
    """The table with a vector more, by its rests, not all of which are 0."""
    row = shortest(rests)
    least = -1
    for at, number in enumerate(row):
        if number and (least < 0 or abs(number) < abs(row[least])):
            least = at
    return Table([*table.pivots, least], [*table.rows, row], len(table.pivots) + 1 == len(row))


class Columns:
    """Columns `found`, no combinations of others, the first at 0, with their table.

    All columns are combinations of them if none are `waiting`, the numbers of columns behind which others come.
    """

    def __init__(self, found, table, waiting):
        self.found = found
        self.table = table
        self.waiting = waiting


def first_column(system):
    first = told_apart(system, system.first)
    table = empty_table(len(first))
    return Columns([system.first], widened_table(table, first) if any(first) else table, [0])


def more_columns(system, known, most):
    """The known columns and others, until all are combinations of them or there are more than `most`.

    The last ones found are looked at first: longer tuples tell more of most formulas.
    """
    found = list(known.found)
    waiting = list(known.waiting)
    table = known.table
    while waiting and len(found) <= most:
        at = waiting.pop()
        for move in system.moves:
            column = moved_column(system, found[at], move)
            rests = rests_of(told_apart(system, column), table)
            if any(rests):
                table = widened_table(table, rests)
                waiting.append(len(found))
                found.append(column)
        if table.full:
            waiting.clear()
    return Columns(found, table, waiting)


def some_columns(system):
    """All columns, or some more than the greatest rank."""
    return more_columns(system, first_column(system), RANK)


def vanishes(system):
    """Whether what the system tells is 0 everywhere: it is if it is 0 at all columns that are told apart."""
    known = first_column(system)
    found = list(known.found)
    waiting = [0]
    table = known.table
    if part_values(system, system.part, found)[0] != 0:
        return False
    while waiting and not table.full:
        at = waiting.pop()
        for move in system.moves:
            column = moved_column(system, found[at], move)
            rests = rests_of(told_apart(system, column), table)
            if any(rests):
                if part_values(system, system.part, [column])[0] != 0:
                    return False
                table = widened_table(table, rests)
                waiting.append(len(found))
                found.append(column)
    return True


def all_columns(system):
    return more_columns(system, first_column(system), len(system.first)).found


class Parts:
    """The basic parts by their values: `codes` are their (k, code of r), `vectors` their values at the columns.

    `places` are as many columns as there are basic parts, at which they tell all of their values, and `links`
    has for each part and digit row the number of a basic part, or None, and the values of the part that follows.
    """

    def __init__(self, codes, vectors, places, links):
        self.codes = codes
        self.vectors = vectors
        self.places = places
        self.links = links


class Basis:
    """The basic parts and the columns by which they are told apart.

    Some of what links them may still be to be worked out, as it is no basic part: for the tuples `left` of the number
    of a part, that of a digit row and the part that follows, and behind the `last` parts, pairs of a number and a part.
    """

    def __init__(self, parts, columns, left, last):
        self.parts = parts
        self.columns = columns
        self.left = left
        self.last = last


def next_parts(system, parts, fresh, codes, steps):
    """What comes of the fresh parts, by the codes of the tuples."""
    table = {}
    for at in fresh:
        level, code = codes[at]
        for index, move in enumerate(system.moves):
            table[code + (steps[index] << level)] = (at, index, part_behind(system, parts[at], move))
    return table


def most_parts(columns):
    """How many parts may be told apart by the columns."""
    if columns.table is None:
        return len(columns.found[0]) * len(columns.found[1])
    return len(columns.table.pivots)


def basis_of(system, columns, size):
    """The basic parts, as far as the columns tell; TooMany is raised if there are more than 16."""
    steps = [code_of(digit_row(index, size)) for index in range(1 << size)]
    codes = []
    parts = []
    vectors = []
    links = {}
    most = most_parts(columns)
    known = empty_table(most if columns.table is None else len(columns.found))
    waiting = {0: (-1, 0, system.part)}
    left = []
    fresh = []
    while waiting:
        fresh = []
        for code in sorted([int(key) for key in waiting]):
            if len(parts) == most:
                left.append(waiting[code])
                continue
            source, index, part = waiting[code]
            vector = part_values(system, part, columns.found)
            rests = rests_of(vector, known) if not known.full else []
            if not any(rests):
                links[source, index] = (None, vector)
                continue
            if len(parts) == RANK:
                raise TooMany()
            known = widened_table(known, rests)
            links[source, index] = (len(parts), vector)
            fresh.append(len(parts))
            codes.append((codes[source][0] + 1 if source >= 0 else 0, code))
            parts.append(part)
            vectors.append(vector)
        waiting = next_parts(system, parts, fresh, codes, steps) if len(parts) < most else {}
    last = [(at, parts[at]) for at in fresh] if len(parts) == most else []
    return Basis(Parts(codes, vectors, known.pivots, links), columns, left, last)


def linked_parts(system, basis):
    """The basic parts with all that links them."""
    parts, columns = basis.parts, basis.columns.found
    left = [*basis.left, *[(at, index, part_behind(system, part, move))
                           for at, part in basis.last for index, move in enumerate(system.moves)]]
    more = {(at, index): (None, part_values(system, part, columns)) for at, index, part in left}
    return Parts(parts.codes, parts.vectors, parts.places, {**parts.links, **more})


def code_of(numbers):
    code = 0
    for number in numbers:
        code = (code << WIDTH) + number
    return code


def numbers_of(code, size):
    return tuple([code >> (WIDTH * (size - 1 - at)) & ((1 << WIDTH) - 1) for at in range(size)])


def inverse(matrix):
    """Rows of integers and a divisor: the rows divided by it are the inverse of the matrix."""
    many = len(matrix)
    rows = [[*row, *[int(at == place) for place in range(many)]] for at, row in enumerate(matrix)]
    for at in range(many):
        if rows[at][at] == 0:
            other = [place for place in range(at + 1, many) if rows[place][at] != 0][0]
            rows[at], rows[other] = rows[other], rows[at]
        pivot = shortest(rows[at])
        bottom = pivot[at]
        rows = [row if row[at] == 0 else [bottom * number - row[at] * beside for number, beside in zip(row, pivot)]
                for row in rows]
        rows[at] = pivot
    divisor = 1
    for at in range(many):
        divisor = lcm(divisor, rows[at][at])
    return [[number * (divisor // row[at]) for number in row[many:]] for at, row in enumerate(rows)], divisor


class Links:
    """Basic parts, and for which digit rows it is asked how what follows them is a combination of them."""

    def __init__(self, parts, kept):
        self.parts = parts
        self.kept = kept


def columns_to_solve(parts):
    """The columns of the inverse of the values of the basic parts, and a divisor for all of them."""
    rows, divisor = inverse([[vector[place] for place in parts.places] for vector in parts.vectors])
    return [[row[at] for row in rows] for at in range(len(rows))], divisor


def link_solved(parts, link, columns, divisor):
    """The row by which what follows a part is a combination of the basic ones."""
    number, vector = link
    if number is not None:
        return ((number, 1),), 1
    told = [vector[place] for place in parts.places]
    return row_of([sum([n * by for n, by in zip(told, column)]) for column in columns], divisor)


def links_solved(links):
    """For each of these digit rows, the rows by which the parts that follow are combinations of the basic ones."""
    parts = links.parts
    columns, divisor = columns_to_solve(parts)
    many = range(len(parts.vectors))
    return tuple([tuple([link_solved(parts, parts.links[at, index], columns, divisor) for at in many])
                  for index in links.kept])


def least_basis(system, known, size):
    """The basic parts, for so many names, by the columns if they are known; TooMany is raised if there are too many."""
    columns = some_columns(system) if known is None else known
    basis = basis_of(system, columns, size)
    most = SOME
    while columns.waiting:
        columns = more_columns(system, columns, most)
        basis = basis_of(system, columns, size)
        most = MORE * most
    return basis


def least_lines(system, basis, names):
    """The names on which the formula hangs, its basic parts, what links them, and their values at 0."""
    size = len(names)
    parts = linked_parts(system, basis)
    many = range(len(parts.vectors))
    followers = [[parts.links[at, index][1] for at in many] for index in range(1 << size)]
    places = places_that_matter(followers)
    labels = []
    for level, code in parts.codes:
        numbers = numbers_of(code, size)
        labels.append((level, tuple([numbers[place] for place in places])))
    used = tuple([names[place] for place in places])
    starts = tuple([vector[0] for vector in parts.vectors])
    return used, tuple(labels), Links(parts, rows_of_places(size, places)), starts

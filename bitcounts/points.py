"""New tuples for lines, in their order, and how the values at other tuples are combinations of those there."""

from bitcounts.digit_rows import digit_row
from bitcounts.solving import (
    Parts, code_of, columns_to_solve, empty_table, link_solved, numbers_of, rests_of, widened_table,
)
from bitcounts.systems import moved_column, told_apart


def next_points(system, found, fresh, codes, steps):
    """What comes of the fresh columns, by the codes of their tuples."""
    waiting = {}
    for at in fresh:
        for index, move in enumerate(system.moves):
            waiting[2 * codes[at] + steps[index]] = (at, index, moved_column(system, found[at], move))
    return waiting


def points_of(system, size, last):
    """The new tuples for the lines of the system, by their codes, with the columns there as vectors.

    Only those ahead of the last tuple are told, and what follows them as far as it is ahead of it, if there is one.
    """
    steps = [code_of(digit_row(index, size)) for index in range(1 << size)]
    end = None if last is None else place_in_order(last)
    codes = []
    found = []
    links = {}
    known = empty_table(len(told_apart(system, system.first)))
    waiting = {0: (-1, 0, system.first)}
    level = 0
    while waiting:
        fresh = []
        for code in sorted([int(key) for key in waiting]):
            if end is not None and (level if code else 0, code) >= end:
                continue
            source, index, column = waiting[code]
            rests = rests_of(column, known) if not known.full else []
            if not any(rests):
                links[source, index] = (None, column)
                continue
            known = widened_table(known, rests)
            links[source, index] = (len(found), column)
            fresh.append(len(found))
            codes.append(code)
            found.append(column)
        waiting = next_points(system, found, fresh, codes, steps)
        level += 1
    return Parts(codes, found, known.pivots, links)


def place_in_order(numbers):
    """By what tuples of numbers are ordered, with their code."""
    return max([int(number) for number in numbers], default=0).bit_length(), code_of(numbers)


def tuples_of(points, size):
    return [numbers_of(code, size) for code in points.codes]


def rows_between(points, size):
    """For each tuple, for each digit row, the row by which what follows is a combination of the values at all tuples.

    It is None where that is not told.
    """
    columns, divisor = columns_to_solve(points)
    rows = []
    for at in range(len(points.codes)):
        links = [points.links.get((at, index), None) for index in range(1 << size)]
        rows.append([None if link is None else link_solved(points, link, columns, divisor) for link in links])
    return rows

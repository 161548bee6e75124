"""New tuples for lines, in their order, and how the values at other tuples are combinations of those there."""

from bitcounts.digit_rows import digit_row
from bitcounts.solving import (
    Links, Parts, code_of, empty_table, links_solved, moved_column, numbers_of, rests_of, told_apart, widened_table,
)


def next_points(system, found, fresh, codes, steps):
    """What comes of the fresh columns, by the codes of their tuples."""
    waiting = {}
    for at in fresh:
        for index, move in enumerate(system.moves):
            waiting[2 * codes[at] + steps[index]] = (at, index, moved_column(system.kind, found[at], move))
    return waiting


def points_of(system, size):
    """The new tuples for the lines of the system, by their codes, with the columns there as vectors."""
    steps = [code_of(digit_row(index, size)) for index in range(1 << size)]
    codes = []
    found = []
    links = {}
    known = empty_table(len(told_apart(system, system.first)))
    waiting = {0: (-1, 0, system.first)}
    while waiting:
        fresh = []
        for code in sorted([int(key) for key in waiting]):
            source, index, column = waiting[code]
            rests = rests_of(column, known) if known.others else []
            if not any(rests):
                links[source, index] = (None, column)
                continue
            known = widened_table(known, rests)
            links[source, index] = (len(found), column)
            fresh.append(len(found))
            codes.append(code)
            found.append(column)
        waiting = next_points(system, found, fresh, codes, steps)
    return Parts(codes, found, known.pivots, links)


def tuples_of(points, size):
    return [numbers_of(code, size) for code in points.codes]


def rows_between(points, size):
    """For each digit row, the rows by which what follows the tuples is a combination of the values at them."""
    return links_solved(Links(points, list(range(1 << size))))

"""A glance at some values of a formula, which shows of most ranks above 16 that they are, before all is worked out.

The formula is made of the values of two words. Its parts are compared at some tuples: if there are more than 16
of them that are no combinations of others at these tuples, modulo a prime number, then its rank is greater than
16. If there are not, nothing is known yet.
"""

from bitcounts.digit_rows import own_rows
from bitcounts.errors import TooMany
from bitcounts.limits import RANK
from bitcounts.rows import applied, row_behind
from bitcounts.systems import moved_column, part_behind, part_values

PRIME = 2 ** 61 - 1
# With no more lines than these, all is worked out as soon as a glance is taken.
FEW = 40
# How many tuples are tried: rows of ever longer ones with mixed digits, short ones, and rows of one digit row alone.
MIXED = 24
MIXED_ROWS = 12
SHORT = 128
PLAIN = 8


def power_of(base, exponent):
    value = 1
    for _ in range(exponent):
        value = value * base
    return value


def worth(kind, number, other):
    """What is made of the values of both words: by a sign, or "ones", "length" or a "power"."""
    if kind == "&":
        return number & other
    if kind == "|":
        return number | other
    if kind == "^":
        return number ^ other
    if kind == "length":
        return abs(number).bit_length()
    digits = f"{abs(number):b}"
    many = sum([int(digit) for digit in digits])
    return many if kind == "ones" else power_of(other, many)


def longer_tuples(chain, indexes):
    """The chain, and behind it ever longer tuples, each by the digit row with the next of these numbers."""
    befores = [len(chain) + at if at else 0 for at in range(len(indexes))]
    return [*chain, *list(zip(befores, indexes))]


def mixed_indexes(many, seed):
    """Numbers of digit rows in no order that matters; by even seeds about half of them are 0."""
    indexes = []
    mixed = seed
    for _ in range(MIXED):
        mixed = (mixed * 1103515245 + 12345) % 2 ** 31
        indexes.append((mixed >> 16) % many if (seed | mixed >> 26) & 1 else 0)
    return indexes


def tuples_to_try(many):
    """Some tuples behind that of zeros: (before, index) tells 2 * x + e.

    Here x is the tuple that comes as number `before`, that of zeros being number 0, and e one of so many digit rows.
    """
    if many == 1:
        return []
    mixed = longer_tuples([], mixed_indexes(many, 1))
    chain = [*mixed, *[(at // many + MIXED if at >= many else 0, at % many) for at in range(1, SHORT)]]
    for index in range(1, many):
        chain = longer_tuples(chain, [index for _ in range(PLAIN)])
        chain = longer_tuples(chain, [index, *[0 for _ in range(PLAIN)]])
    for seed in range(2, MIXED_ROWS + 1):
        chain = longer_tuples(chain, mixed_indexes(many, seed))
    return chain


def rows_to_try(spans):
    """Rows that tell of the values of a word at its points those at some tuples, by its spans."""
    rows = [(((0, 1),), 1)]
    for before, index in tuples_to_try(len(spans)):
        rows.append(row_behind(rows[before], spans[index]))
    return rows


def spelled_behind(part, spelling, index):
    """The part of a part (state, places, low), which is the number low and 2 ** places times the state."""
    state, places, low = part
    follower, factor, digit = spelling.steps[state][index]
    return follower, places + factor - 1, low + (digit << places)


def spelled_values(part, spelling, rows):
    state, places, low = part
    return [(number << places) + low for number in applied(rows, spelling.worths[state])]


def reduced_modulo(vector, echelon):
    for place, row in echelon:
        taken, kept = vector[place], row[place]
        if taken != 0:
            vector = [(kept * number - taken * beside) % PRIME for number, beside in zip(vector, row)]
    return vector


def look_at_rank(kind, first, second, names):
    """TooMany is raised if some values show that the rank of what is made of both words is greater than 16."""
    own, beside = own_rows(first.variables, names), own_rows(second.variables, names)
    rows = rows_to_try([first.spans[index] for index in own])
    rows_beside = rows_to_try([second.spans[index] for index in beside])
    waiting = [((0, first.known, first.low), (0, second.known, second.low))]
    echelon = []
    at = 0
    while at < len(waiting):
        part, other = waiting[at]
        at += 1
        values, values_beside = spelled_values(part, first, rows), spelled_values(other, second, rows_beside)
        made = [worth(kind, number, against) % PRIME for number, against in zip(values, values_beside)]
        rest = reduced_modulo(made, echelon)
        places = [place for place, number in enumerate(rest) if number != 0]
        if places:
            echelon.append((places[0], rest))
            waiting.extend([
                (spelled_behind(part, first, index), spelled_behind(other, second, against))
                for index, against in zip(own, beside)
            ])
        if len(echelon) > RANK:
            raise TooMany()


def look_at_line(system):
    """TooMany is raised if some parts of a formula of one name, told by integer lines, show that its rank is too great.

    The parts of ever more lowest zeros are compared at the powers of two, and at a few tuples of mixed digits.
    """
    columns = [moved_column(system, system.first, system.moves[1])]
    for at in range(RANK + 6):
        columns.append(moved_column(system, columns[-1], system.moves[0 if at < RANK + 2 else at & 1]))
    part = system.part
    echelon = []
    for _ in range(RANK + 4):
        rest = reduced_modulo([number % PRIME for number in part_values(system, part, columns)], echelon)
        places = [place for place, number in enumerate(rest) if number != 0]
        if places:
            echelon.append((places[0], rest))
        if len(echelon) > RANK:
            raise TooMany()
        part = part_behind(system, part, system.moves[0])

"""How machines of tests are joined and compared, by the pairs of their states that come up together."""

from bitcounts.digit_rows import own_rows, united
from bitcounts.errors import TooManyClasses
from bitcounts.evaluations import joined_value
from bitcounts.limits import CLASSES, RANK
from bitcounts.machines import Machine, everywhere, grouped, least_machine, never, numbered, opposite

GREATEST_PAIRS = 4096
# With more pairs than these it is seen first whether they settle something at once, and with more than some of them.
MANY_PAIRS = 500
SOME_PAIRS = 2000
# With more classes that are seen at once than these, it is seen by those that follow whether there are too many.
SOME_CLASSES = 100
# For how many tuples it is seen whether states hold.
SOME_TUPLES = 4096
# More pairs than any machines have.
ALL_PAIRS = 1 << 60
# How many machines are told inside and outside of another one, which has more states than the fewest.
MOST_BESIDE = 4
FEWEST = 8
# Whether the first one does not hold or the second one does, by both.
ONLY_IF = ((True, True), (False, True))
# Whether a joined test holds, by whether the one and whether the other one does.
TABLES = {"&": ((False, False), (False, True)), "|": ((False, True), (True, True)), "^": ((False, True), (True, False))}


def settled_states(machine, table):
    """The states that hold or do not hold wherever they come up, if the table's row for that says the same for both."""
    if not table:
        return {}
    found = {}
    for state, (way, mark) in enumerate(zip(machine.ways, machine.marks)):
        row = table[int(mark)]
        if row[0] == row[1] and all([follower == state for follower in way]):
            found[state] = True
    return found


def turned(table):
    return tuple(zip(table[0], table[1])) if table else table


class Pairs:
    """The pairs of states, one of each of two machines, that come of the first ones.

    The code of a pair is that of the second state and the first one times how many there are of the second; that of
    all pairs that are settled is the product of both numbers. `codes` are those that come up, as they come, `rows`
    has for each of them the codes that follow it, and `places` the place of each code.
    """

    def __init__(self, codes, rows, places):
        self.codes = codes
        self.rows = rows
        self.places = places


def scaled_ways(machine, rows, by, settled, end):
    """For each state so many times those that follow, or the number of the end if they are settled."""
    return [[end if way[index] in settled else way[index] * by for index in rows] for way in machine.ways]


def pairs_of(machine, other, names, table):
    """The pairs that come up; by the table, those are settled by one state for which the other one does not matter.

    If there is no table, none are settled, and TooManyClasses is raised if there are more than 4096 pairs.
    """
    settled, settled_beside = settled_states(machine, table), settled_states(other, turned(table))
    size = len(other.marks)
    many = size * len(machine.marks)
    first = scaled_ways(machine, own_rows(machine.variables, names), size, settled, many)
    second = scaled_ways(other, own_rows(other.variables, names), 1, settled_beside, many)
    codes = [many if 0 in settled or 0 in settled_beside else 0]
    places = {codes[0]: 0}
    rows = []
    while len(rows) < len(codes):
        code = codes[len(rows)]
        if code == many:
            rows.append([many for _ in first[0]])
            continue
        row = [way + ahead for way, ahead in zip(first[code // size], second[code % size])]
        if settled or settled_beside:
            row = [then if then < many else many for then in row]
        rows.append(row)
        fresh = [then for then in row if then not in places]
        for then in fresh:
            if then not in places:
                places[then] = len(codes)
                codes.append(then)
        if not table and len(codes) > GREATEST_PAIRS:
            raise TooManyClasses()
    return Pairs(codes, rows, places)


def paired(machine, other, names):
    """The pairs of states, one of each machine, that come of the first ones, and those that follow them."""
    size = len(other.marks)
    pairs = pairs_of(machine, other, names, None)
    return [(code // size, code % size) for code in pairs.codes], linked(pairs)


def linked(pairs):
    """For each pair the places of those that follow."""
    places = pairs.places
    return [[places[code] for code in row] for row in pairs.rows]


def joined_marks(machine, other, codes, table):
    """Whether both joined hold at the pairs with these codes."""
    size = len(other.marks)
    many = size * len(machine.marks)
    settled = any([row[0] and row[1] for row in table])
    return [settled if code == many else
            table[int(machine.marks[code // size])][int(other.marks[code % size])] for code in codes]


def is_parting(machine, other, pairs):
    """Whether the first machine holds at 0 and the other one does not in one of the pairs, told by first states."""
    for state in pairs:
        if machine.marks[state] and not all([other.marks[against] for against in pairs[state]]):
            return True
    return False


class Together:
    """For each state of a machine those of another one that come up with it, all of them if none are `waiting`.

    `parts` is whether the machine holds at 0 and the other one does not in a pair; others may be waiting then.
    """

    def __init__(self, seen, waiting, parts):
        self.seen = seen
        self.waiting = waiting
        self.parts = parts


def seen_together(machine, other, names, table, most):
    """The pairs that come up, by the table as above, or some more than `most` of them.

    If there is a table, it is looked whether a pair parts.
    """
    settled, settled_beside = settled_states(machine, table), settled_states(other, turned(table))
    columns = [[row[place] for row in other.ways] for place in own_rows(other.variables, names)]
    rows = list(zip(own_rows(machine.variables, names), columns))
    seen = [{against: True for against in settled_beside} for _ in machine.ways]
    fresh = {} if 0 in settled or 0 in settled_beside else {0: {0: True}}
    seen[0] = {**seen[0], 0: True}
    many = 1
    parts = False
    while fresh and many <= most and not parts:
        parts = bool(table) and is_parting(machine, other, fresh)
        after = {}
        for state in fresh:
            way, pairs = machine.ways[state], list(fresh[state])
            for index, column in rows:
                then = way[index]
                known = seen[then]
                new = {found: True for found in [column[against] for against in pairs] if found not in known}
                if new and then not in settled:
                    before = after.get(then, {})
                    after[then] = {**before, **new}
                    many = many + len(after[then]) - len(before)
            if many > most:
                break
        for state in after:
            seen[state] = {**seen[state], **after[state]}
        fresh = after
    return Together([list(row) for row in seen], bool(fresh), parts)


def signs_of(machine, names):
    """For each state a number whose binary digits are whether it holds at some tuples, all with so many places."""
    rows = own_rows(machine.variables, names)
    signs = [int(mark) for mark in machine.marks]
    width = 1
    while width * len(rows) <= SOME_TUPLES and len(rows) > 1:
        signs = [sum([signs[way[index]] << at * width for at, index in enumerate(rows)]) for way in machine.ways]
        width = width * len(rows)
    return signs


def binary_rank(signs):
    """At most the rank: how many of these rows of binary digits are no sums, modulo 2, of others; no more than 17."""
    rows = []
    for sign in signs:
        rest = sign
        for row, place in rows:
            if rest >> place & 1:
                rest = rest ^ row
        if rest:
            rows.append((rest, rest.bit_length() - 1))
            if len(rows) > RANK:
                break
    return len(rows)


def by_states(seen, groups):
    """For each state of the one machine the numbers of its pairs by the states of the other one."""
    found = []
    for row in seen:
        at = sum([len(known) for known in found])
        found.append({against: group for against, group in zip(row, groups[at:at + len(row)])})
    return found


def many_behind(machine, other, names, groups):
    """How many of all pairs are told apart by the classes of the pairs that follow them.

    `groups` has for each state of the machine the classes of the pairs with the states of the other one, by these.
    """
    own, beside = own_rows(machine.variables, names), own_rows(other.variables, names)
    ways_beside = [[way[index] for index in beside] for way in other.ways]
    rows = {}
    for way, pairs in zip(machine.ways, groups):
        behind = [groups[way[index]] for index in own]
        for against in pairs:
            rows[tuple([group[then] for group, then in zip(behind, ways_beside[against])])] = True
    return len(rows)


def look_at_classes(machine, other, names, sign):
    """TooManyClasses is raised if pairs, joined, are seen to be more than 256 different tests, or if they are too many.

    A pair is told by the numbers of both states; all pairs are looked at only if there may be more than 4096.
    """
    signs, beside = signs_of(machine, names), signs_of(other, names)
    for most in (SOME_PAIRS, GREATEST_PAIRS):
        pairs = seen_together(machine, other, names, None, most)
        if pairs.waiting and most == GREATEST_PAIRS:
            raise TooManyClasses()
        told = [joined_value(sign, one, beside[against]) for one, row in zip(signs, pairs.seen) for against in row]
        found = len({bits: True for bits in told})
        if found > CLASSES:
            raise TooManyClasses()
        if found > SOME_CLASSES and not pairs.waiting:
            if many_behind(machine, other, names, by_states(pairs.seen, numbered(told)[0])) > CLASSES:
                raise TooManyClasses()
        if not pairs.waiting or len(signs) * len(beside) <= GREATEST_PAIRS:
            return


def insides(machine):
    return machine.beside[0] if machine.beside[0] else (machine,)


def outsides(machine):
    return machine.beside[1] if machine.beside[1] else (opposite(machine),)


def are_seen_apart(machines, others):
    """Whether two small ones of these machines never hold together."""
    for one in machines:
        for other in others:
            if len(one.marks) * len(other.marks) <= MANY_PAIRS and holds_only_within(one, opposite(other)):
                return True
    return False


def holds_only_within(machine, other):
    """Whether the other one holds wherever the first one does, by the pairs of their states."""
    names = [*machine.variables, *[name for name in other.variables if name not in machine.variables]]
    pairs = seen_together(machine, other, tuple(sorted([str(name) for name in names])), ONLY_IF, ALL_PAIRS)
    return not pairs.parts


def is_within(machine, other):
    """Whether the other one holds wherever the first one does."""
    _ = united(machine.variables, other.variables)
    if len(machine.marks) * len(other.marks) > MANY_PAIRS and are_seen_apart(insides(machine), outsides(other)):
        return True
    return holds_only_within(machine, other)


def told_of(made, machine, other, sign):
    """The joined machine, with those that are told inside or outside of it."""
    if len(made.marks) < FEWEST or sign == "^":
        return made
    inside = (*insides(machine), *insides(other)) if sign == "&" else ()
    outside = (*outsides(machine), *outsides(other)) if sign == "|" else ()
    if len(inside) + len(outside) > MOST_BESIDE:
        return made
    return Machine(made.variables, made.ways, made.marks, (inside, outside))


def joined(machine, other, sign):
    """The machine that holds where both, at least one or just one of them does, by the signs `&`, `|`, `^`."""
    names = united(machine.variables, other.variables)
    if len(machine.marks) * len(other.marks) > MANY_PAIRS:
        if sign == "&" and are_seen_apart(insides(machine), insides(other)):
            check_pairs(machine, other, names)
            return never()
        look_at_classes(machine, other, names, sign)
    return told_of(joined_by_pairs(machine, other, names, TABLES[sign]), machine, other, sign)


def check_pairs(machine, other, names):
    """TooManyClasses is raised if there are more than 4096 pairs, also of those that are settled."""
    if len(machine.marks) * len(other.marks) > GREATEST_PAIRS:
        if seen_together(machine, other, names, None, GREATEST_PAIRS).waiting:
            raise TooManyClasses()


def joined_by_pairs(machine, other, names, table):
    pairs = pairs_of(machine, other, names, table)
    marks = joined_marks(machine, other, pairs.codes, table)
    if not any(marks):
        return never()
    if all(marks):
        return everywhere()
    ways = linked(pairs)
    return least_machine(names, ways, marks, grouped(ways, marks))

"""Machines of tests: their classes, and how they are joined, compared and asked for least numbers."""

from bitcounts.digit_rows import digit_row, own_rows, places_that_matter, rows_of_places, united
from bitcounts.errors import TooManyClasses
from bitcounts.limits import CLASSES

GREATEST_PAIRS = 4096
# Whether the second one holds, or the first one does not, by both.
ONLY_IF = ((True, True), (False, True))


class Machine:
    """The least machine of a test: its states are the classes, the test itself first.

    `variables` are the ascending names on which the test hangs, `ways` has for each state the tuple of the
    states that follow by each digit row, from the lowest place on, and `marks` whether the states hold at 0.
    The states are numbered as they come, by the digit rows of each state in their order, state by state.
    """

    def __init__(self, variables, ways, marks):
        self.variables = variables
        self.ways = ways
        self.marks = marks


def everywhere():
    """The machine of the test that holds everywhere."""
    return Machine((), ((0,),), (True,))


def never():
    """The machine of the test that holds nowhere."""
    return Machine((), ((0,),), (False,))


def leading(ways, bound):
    """How many of the first states are followed only by states below the bound."""
    for at in range(len(ways)):
        if any([follower >= bound for follower in ways[at]]):
            return at
    return len(ways)


def numbered(rows):
    """Numbers for rows, the same for equal ones, and how many there are."""
    numbers = {row: at for at, row in enumerate(rows)}
    return [numbers[row] for row in rows], len(numbers)


def leading_in(ways):
    """The states that no circle leads to, each ahead of those that follow it, and all others."""
    sources = [0 for _ in ways]
    for way in ways:
        for follower in way:
            sources[follower] = sources[follower] + 1
    free = [at for at, many in enumerate(sources) if many == 0]
    at = 0
    while at < len(free):
        way = ways[free[at]]
        for follower in way:
            sources[follower] = sources[follower] - 1
            if sources[follower] == 0:
                free.append(follower)
        at += 1
    return free, [at for at, many in enumerate(sources) if many > 0]


def grouped_circles(ways, marks, states):
    """For each state the number of its class, right for these states, which only such states follow."""
    groups = [int(mark) for mark in marks]
    own = [ways[state] for state in states]
    many = 0
    while states:
        rows = [tuple([groups[follower] for follower in way]) for way in own]
        numbers = {row: at for at, row in enumerate(rows)}
        for state, row in zip(states, rows):
            groups[state] = numbers[row]
        if len(numbers) == many or len(numbers) == len(states):
            break
        many = len(numbers)
        if many > CLASSES:
            raise TooManyClasses()
    return groups


def grouped_whole(ways, marks):
    """For each state the number of its class; TooManyClasses is raised if there are more than 256."""
    free, others = leading_in(ways)
    groups = list(grouped_circles(ways, marks, others))
    rows = {tuple([groups[follower] for follower in ways[state]]): groups[state] for state in others}
    for state in free[::-1]:
        row = tuple([groups[follower] for follower in ways[state]])
        rows[row] = rows.get(row, len(ways) + state)
        groups[state] = rows[row]
    if len(rows) > CLASSES:
        raise TooManyClasses()
    return groups


def grouped(ways, marks):
    """For each state the number of its class, or None if the ways of the last states are not known.

    The states are told apart by what comes of them, digit row by digit row, as far as the ways are known.
    TooManyClasses is raised as soon as there are more than 256 that are told apart.
    """
    if len(ways) == len(marks):
        return grouped_whole(ways, marks)
    groups = [int(mark) for mark in marks]
    while groups:
        known = leading(ways, len(groups))
        groups, many = numbered([tuple([groups[follower] for follower in way]) for way in ways[:known]])
        if many > CLASSES:
            raise TooManyClasses()
    return None


def without_idle(names, ways, marks):
    """The machine without the names on which nothing hangs."""
    columns = [[row[index] for row in ways] for index in range(1 << len(names))]
    places = places_that_matter(columns)
    kept = rows_of_places(len(names), places)
    used = tuple([names[place] for place in places])
    if len(places) == len(names):
        return Machine(names, tuple([tuple(row) for row in ways]), tuple(marks))
    return Machine(used, tuple([tuple([row[index] for index in kept]) for row in ways]), tuple(marks))


def least_machine(names, ways, marks, groups):
    """The least machine of the test that is the state 0, by the numbers of the states' classes.

    If no class comes twice, the states are numbered as they come already.
    """
    if len({group: True for group in groups}) == len(groups):
        return without_idle(names, ways, marks)
    found = [0]
    places = {groups[0]: 0}
    links = []
    while len(links) < len(found):
        row = []
        way = ways[found[len(links)]]
        for follower in way:
            if groups[follower] not in places:
                places[groups[follower]] = len(found)
                found.append(follower)
            row.append(places[groups[follower]])
        links.append(row)
    return without_idle(names, links, [marks[at] for at in found])


def settled_states(machine, table):
    """The states that hold or do not hold wherever they come up, if the table's row for that says the same for both."""
    if not table:
        return {}
    found = {}
    for state, (way, mark) in enumerate(zip(machine.ways, machine.marks)):
        row = table[int(mark)]
        if row[0] == row[1] and all([follower == state for follower in way]):
            found[state] = True
    return found


class Pairs:
    """The pairs of states, one of each of two machines, that come of the first ones.

    The code of a pair is that of the second state and the first one times how many there are of the second; that of
    all pairs that are settled is the product of both numbers. `codes` are those that come up, as they come, `rows`
    has for each of them the codes that follow it, and `places` the place of each code.
    """

    def __init__(self, codes, rows, places):
        self.codes = codes
        self.rows = rows
        self.places = places


def pairs_of(machine, other, names, table):
    """The pairs that come up; by the table, those are settled by one state for which the other one does not matter.

    If there is no table, none are settled, and TooManyClasses is raised if there are more than 4096 pairs.
    """
    own, beside = own_rows(machine.variables, names), own_rows(other.variables, names)
    size = len(other.marks)
    many = size * len(machine.marks)
    first = [[way[index] * size for index in own] for way in machine.ways]
    second = [[way[index] for index in beside] for way in other.ways]
    settled = settled_states(machine, table)
    settled_beside = settled_states(other, tuple(zip(table[0], table[1])) if table else None)
    codes = [many if 0 in settled or 0 in settled_beside else 0]
    places = {0: 0, codes[0]: 0}
    rows = []
    while len(rows) < len(codes):
        code = codes[len(rows)]
        if code == many:
            rows.append([many for _ in own])
            continue
        row = [way + ahead for way, ahead in zip(first[code // size], second[code % size])]
        rows.append(row)
        fresh = [then for then in row if then not in places]
        for follower in fresh:
            if follower // size in settled or follower % size in settled_beside:
                if many not in places:
                    places[many] = len(codes)
                    codes.append(many)
                places[follower] = places[many]
            elif follower not in places:
                places[follower] = len(codes)
                codes.append(follower)
        if not table and len(codes) > GREATEST_PAIRS:
            raise TooManyClasses()
    return Pairs(codes, rows, places)


def paired(machine, other, names):
    """The pairs of states, one of each machine, that come of the first ones, and those that follow them."""
    size = len(other.marks)
    pairs = pairs_of(machine, other, names, None)
    return [(code // size, code % size) for code in pairs.codes], linked(pairs)


def linked(pairs):
    """For each pair the places of those that follow."""
    return [[pairs.places[code] for code in row] for row in pairs.rows]


def joined_marks(machine, other, codes, table):
    """Whether both joined hold at the pairs with these codes."""
    size = len(other.marks)
    many = size * len(machine.marks)
    settled = any([row[0] and row[1] for row in table])
    return [settled if code == many else
            table[int(machine.marks[code // size])][int(other.marks[code % size])] for code in codes]


def joined(machine, other, table):
    """The machine that holds where the table says so, by whether the one and whether the other one holds."""
    names = united(machine.variables, other.variables)
    if len(machine.marks) * len(other.marks) > GREATEST_PAIRS:
        # All pairs are to be counted, also those that are settled.
        _ = pairs_of(machine, other, names, None)
    pairs = pairs_of(machine, other, names, table)
    marks = joined_marks(machine, other, pairs.codes, table)
    if not any(marks):
        return never()
    if all(marks):
        return everywhere()
    ways = linked(pairs)
    return least_machine(names, ways, marks, grouped(ways, marks))


def opposite(machine):
    return Machine(machine.variables, machine.ways, tuple([not mark for mark in machine.marks]))


def is_within(machine, other):
    """Whether the other one holds wherever the first one does."""
    names = united(machine.variables, other.variables)
    pairs = pairs_of(machine, other, names, ONLY_IF)
    return all(joined_marks(machine, other, pairs.codes, ONLY_IF))


def same_machines(machine, other):
    if machine.variables != other.variables or machine.marks != other.marks:
        return False
    return machine.ways == other.ways


def holds_at(machine, indexes):
    """Whether it holds at the tuple with these digit rows, from the lowest place on."""
    state = 0
    for index in indexes:
        state = machine.ways[state][index]
    return machine.marks[state]


def reached(machine, states, indexes):
    """The states that follow these by one of the digit rows with these numbers, each once."""
    return list({machine.ways[state][index]: True for state in states for index in indexes})


def leading_to(machine, states, indexes, targets):
    """Those of the states that one of the targets follows by one of the digit rows."""
    aims = {target: True for target in targets}
    return [state for state in states if any([machine.ways[state][index] in aims for index in indexes])]


def marked(machine, states):
    return [state for state in states if machine.marks[state]]


def all_rows(machine):
    """The numbers of all its digit rows, that of zeros first."""
    return list(range(len(machine.ways[0])))


def shortest_length(machine):
    """The least number of places of tuples at which it holds, None if it never does."""
    states = [0]
    for length in range(len(machine.marks)):
        if marked(machine, states):
            return length
        states = reached(machine, states, all_rows(machine))
    return None


def rows_that_agree(machine, numbers, place):
    """The numbers of the digit rows that have the digits of the first numbers at this place."""
    size = len(machine.variables)
    digits = tuple([number >> place & 1 for number in numbers])
    return [index for index in range(1 << size) if digit_row(index, size)[:len(digits)] == digits]


def least_number(machine, length, numbers):
    """The least number behind these first ones with which it holds, if all have at most so many places."""
    allowed = [rows_that_agree(machine, numbers, place) for place in range(length)]
    levels = [[0]]
    for indexes in allowed:
        levels.append(reached(machine, levels[-1], indexes))
    targets = marked(machine, levels[-1])
    bit = 1 << (len(machine.variables) - 1 - len(numbers))
    number = 0
    for place in reversed(range(length)):
        lower = [index for index in allowed[place] if index & bit == 0]
        sources = leading_to(machine, levels[place], lower, targets)
        if not sources:
            number = number + (1 << place)
            sources = leading_to(machine, levels[place], allowed[place], targets)
        targets = sources
    return number


def least_numbers(machine):
    """The least tuple at which it holds, None if it never does."""
    length = shortest_length(machine)
    if length is None:
        return None
    numbers = []
    for _ in machine.variables:
        numbers.append(least_number(machine, length, numbers))
    return tuple(numbers)


def holds_finitely(machine):
    """Whether it holds at finitely many tuples."""
    rows = all_rows(machine)
    holding = marked(machine, list(range(len(machine.marks))))
    states = [0]
    # Behind as many places as there are states one of them has come twice, so there are such tuples of any length.
    for _ in machine.marks:
        states = reached(machine, states, rows)
    for _ in machine.marks:
        if leading_to(machine, states, rows[1:], holding):
            return False
        states = reached(machine, states, rows)
    return True

"""Machines of tests: their classes, and how they are joined, compared and asked for least numbers."""

from bitcounts.digit_rows import digit_row, own_rows, places_that_matter, rows_of_places, united
from bitcounts.errors import TooManyClasses
from bitcounts.limits import CLASSES

GREATEST_PAIRS = 4096


class Machine:
    """The least machine of a test: its states are the classes, the test itself first.

    `variables` are the ascending names on which the test hangs, `ways` has for each state the tuple of the
    states that follow by each digit row, from the lowest place on, and `marks` whether the states hold at 0.
    The states are numbered as they come, by the digit rows of each state in their order, state by state.
    """

    def __init__(self, variables, ways, marks):
        self.variables = variables
        self.ways = ways
        self.marks = marks


def everywhere():
    """The machine of the test that holds everywhere."""
    return Machine((), ((0,),), (True,))


def leading(ways, bound):
    """How many of the first states are followed only by states below the bound."""
    for at in range(len(ways)):
        if any([follower >= bound for follower in ways[at]]):
            return at
    return len(ways)


def numbered(rows):
    """Numbers from 0 on for rows, the same for equal ones."""
    numbers = {}
    for row in rows:
        if row not in numbers:
            numbers[row] = len(numbers)
    return [numbers[row] for row in rows], len(numbers)


def grouped(ways, marks):
    """For each state the number of its class, or None if the ways of the last states are not known.

    The states are told apart by what comes of them, digit row by digit row, as far as the ways are known.
    TooManyClasses is raised as soon as there are more than 256 that are told apart.
    """
    complete = len(ways) == len(marks)
    groups = [int(mark) for mark in marks]
    many = 0
    while groups:
        known = len(ways) if complete else leading(ways, len(groups))
        rows = [tuple([groups[follower] for follower in row]) for row in ways[:known]]
        before = many
        groups, many = numbered(rows)
        if many > CLASSES:
            raise TooManyClasses()
        if complete and many == before:
            return groups
    return None


def without_idle(names, ways, marks):
    """The machine without the names on which nothing hangs."""
    columns = [[row[index] for row in ways] for index in range(1 << len(names))]
    places = places_that_matter(columns)
    kept = rows_of_places(len(names), places)
    used = tuple([names[place] for place in places])
    return Machine(used, tuple([tuple([row[index] for index in kept]) for row in ways]), tuple(marks))


def least_machine(names, ways, marks, groups):
    """The least machine of the test that is the state 0, by the numbers of the states' classes."""
    found = [0]
    places = {groups[0]: 0}
    links = []
    while len(links) < len(found):
        row = []
        for follower in ways[found[len(links)]]:
            if groups[follower] not in places:
                places[groups[follower]] = len(found)
                found.append(follower)
            row.append(places[groups[follower]])
        links.append(row)
    return without_idle(names, links, [marks[at] for at in found])


def paired(machine, other, names, most):
    """The pairs of states, one of each machine, that come of the first ones, and those that follow them.

    TooManyClasses is raised if there are more than `most`.
    """
    own, beside = own_rows(machine.variables, names), own_rows(other.variables, names)
    found = [(0, 0)]
    places = {(0, 0): 0}
    links = []
    while len(links) < len(found):
        state, against = found[len(links)]
        row = []
        for index, index_beside in zip(own, beside):
            follower = machine.ways[state][index], other.ways[against][index_beside]
            if follower not in places:
                places[follower] = len(found)
                found.append(follower)
            row.append(places[follower])
        if len(found) > most:
            raise TooManyClasses()
        links.append(row)
    return found, links


def joined(machine, other, table):
    """The machine that holds where the table says so, by whether the one and whether the other one holds."""
    names = united(machine.variables, other.variables)
    found, ways = paired(machine, other, names, GREATEST_PAIRS)
    marks = [table[int(machine.marks[state])][int(other.marks[against])] for state, against in found]
    return least_machine(names, ways, marks, grouped(ways, marks))


def opposite(machine):
    return Machine(machine.variables, machine.ways, tuple([not mark for mark in machine.marks]))


def is_within(machine, other):
    """Whether the other one holds wherever the first one does."""
    names = united(machine.variables, other.variables)
    found, _ = paired(machine, other, names, CLASSES * CLASSES)
    return all([other.marks[against] or not machine.marks[state] for state, against in found])


def same_machines(machine, other):
    if machine.variables != other.variables or machine.marks != other.marks:
        return False
    return machine.ways == other.ways


def holds_at(machine, indexes):
    """Whether it holds at the tuple with these digit rows, from the lowest place on."""
    state = 0
    for index in indexes:
        state = machine.ways[state][index]
    return machine.marks[state]


def reached(machine, states, indexes):
    """The states that follow these by one of the digit rows with these numbers, each once."""
    return list({machine.ways[state][index]: True for state in states for index in indexes})


def leading_to(machine, states, indexes, targets):
    """Those of the states that one of the targets follows by one of the digit rows."""
    aims = {target: True for target in targets}
    return [state for state in states if any([machine.ways[state][index] in aims for index in indexes])]


def marked(machine, states):
    return [state for state in states if machine.marks[state]]


def all_rows(machine):
    """The numbers of all its digit rows, that of zeros first."""
    return list(range(len(machine.ways[0])))


def shortest_length(machine):
    """The least number of places of tuples at which it holds, None if it never does."""
    states = [0]
    for length in range(len(machine.marks)):
        if marked(machine, states):
            return length
        states = reached(machine, states, all_rows(machine))
    return None


def rows_that_agree(machine, numbers, place):
    """The numbers of the digit rows that have the digits of the first numbers at this place."""
    size = len(machine.variables)
    digits = tuple([number >> place & 1 for number in numbers])
    return [index for index in range(1 << size) if digit_row(index, size)[:len(digits)] == digits]


def least_number(machine, length, numbers):
    """The least number behind these first ones with which it holds, if all have at most so many places."""
    allowed = [rows_that_agree(machine, numbers, place) for place in range(length)]
    levels = [[0]]
    for indexes in allowed:
        levels.append(reached(machine, levels[-1], indexes))
    targets = marked(machine, levels[-1])
    bit = 1 << (len(machine.variables) - 1 - len(numbers))
    number = 0
    for place in reversed(range(length)):
        lower = [index for index in allowed[place] if index & bit == 0]
        sources = leading_to(machine, levels[place], lower, targets)
        if not sources:
            number = number + (1 << place)
            sources = leading_to(machine, levels[place], allowed[place], targets)
        targets = sources
    return number


def least_numbers(machine):
    """The least tuple at which it holds, None if it never does."""
    length = shortest_length(machine)
    if length is None:
        return None
    numbers = []
    for _ in machine.variables:
        numbers.append(least_number(machine, length, numbers))
    return tuple(numbers)


def holds_finitely(machine):
    """Whether it holds at finitely many tuples."""
    rows = all_rows(machine)
    holding = marked(machine, list(range(len(machine.marks))))
    states = [0]
    # Behind as many places as there are states one of them has come twice, so there are such tuples of any length.
    for _ in machine.marks:
        states = reached(machine, states, rows)
    for _ in machine.marks:
        if leading_to(machine, states, rows[1:], holding):
            return False
        states = reached(machine, states, rows)
    return True

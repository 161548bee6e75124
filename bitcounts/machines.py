"""Machines of tests: their classes, and how they are asked for least numbers."""

from bitcounts.digit_rows import digit_row, places_that_matter, rows_of_places
from bitcounts.errors import TooManyClasses
from bitcounts.limits import CLASSES

# What stands beside a machine of which nothing else is told.
ALONE = ((), ())


class Machine:
    """The least machine of a test: its states are the classes, the test itself first.

    `variables` are the ascending names on which the test hangs, `ways` has for each state the tuple of the
    states that follow by each digit row, from the lowest place on, and `marks` whether the states hold at 0.
    The states are numbered as they come, by the digit rows of each state in their order, state by state.

    `beside` is a pair of tuples of other machines: where it holds, all of the first ones do; where it does not, all of
    the second ones do. There may be none.
    """

    def __init__(self, variables, ways, marks, beside):
        self.variables = variables
        self.ways = ways
        self.marks = marks
        self.beside = beside


def everywhere():
    """The machine of the test that holds everywhere."""
    return Machine((), ((0,),), (True,), ALONE)


def never():
    """The machine of the test that holds nowhere."""
    return Machine((), ((0,),), (False,), ALONE)


def leading(ways, bound):
    """How many of the first states are followed only by states below the bound."""
    for at in range(len(ways)):
        if any([follower >= bound for follower in ways[at]]):
            return at
    return len(ways)


def numbered(rows):
    """Numbers for rows, the same for equal ones, and how many there are."""
    numbers = {row: at for at, row in enumerate(rows)}
    return [numbers[row] for row in rows], len(numbers)


def leading_in(ways):
    """The states that no circle leads to, each ahead of those that follow it, and all others."""
    sources = [0 for _ in ways]
    for way in ways:
        for follower in way:
            sources[follower] = sources[follower] + 1
    free = [at for at, many in enumerate(sources) if many == 0]
    at = 0
    while at < len(free):
        way = ways[free[at]]
        for follower in way:
            sources[follower] = sources[follower] - 1
            if sources[follower] == 0:
                free.append(follower)
        at += 1
    return free, [at for at, many in enumerate(sources) if many > 0]


def grouped_circles(ways, marks, states):
    """For each state the number of its class, right for these states, which only such states follow."""
    groups = [int(mark) for mark in marks]
    own = [ways[state] for state in states]
    many = 0
    while states:
        rows = [tuple([groups[follower] for follower in way]) for way in own]
        numbers = {row: at for at, row in enumerate(rows)}
        for state, row in zip(states, rows):
            groups[state] = numbers[row]
        if len(numbers) == many or len(numbers) == len(states):
            break
        many = len(numbers)
        if many > CLASSES:
            raise TooManyClasses()
    return groups


def grouped_whole(ways, marks):
    """For each state the number of its class; TooManyClasses is raised if there are more than 256."""
    free, others = leading_in(ways)
    groups = list(grouped_circles(ways, marks, others))
    rows = {tuple([groups[follower] for follower in ways[state]]): groups[state] for state in others}
    for state in free[::-1]:
        row = tuple([groups[follower] for follower in ways[state]])
        rows[row] = rows.get(row, len(ways) + state)
        groups[state] = rows[row]
    if len(rows) > CLASSES:
        raise TooManyClasses()
    return groups


def grouped(ways, marks):
    """For each state the number of its class, or None if the ways of the last states are not known.

    The states are told apart by what comes of them, digit row by digit row, as far as the ways are known.
    TooManyClasses is raised as soon as there are more than 256 that are told apart.
    """
    if len(ways) == len(marks):
        return grouped_whole(ways, marks)
    groups = [int(mark) for mark in marks]
    while groups:
        known = leading(ways, len(groups))
        groups, many = numbered([tuple([groups[follower] for follower in way]) for way in ways[:known]])
        if many > CLASSES:
            raise TooManyClasses()
    return None


def without_idle(names, ways, marks):
    """The machine without the names on which nothing hangs."""
    columns = [[row[index] for row in ways] for index in range(1 << len(names))]
    places = places_that_matter(columns)
    kept = rows_of_places(len(names), places)
    used = tuple([names[place] for place in places])
    if len(places) == len(names):
        return Machine(names, tuple([tuple(row) for row in ways]), tuple(marks), ALONE)
    return Machine(used, tuple([tuple([row[index] for index in kept]) for row in ways]), tuple(marks), ALONE)


def least_machine(names, ways, marks, groups):
    """The least machine of the test that is the state 0, by the numbers of the states' classes.

    If no class comes twice, the states are numbered as they come already.
    """
    if len({group: True for group in groups}) == len(groups):
        return without_idle(names, ways, marks)
    found = [0]
    places = {groups[0]: 0}
    links = []
    while len(links) < len(found):
        row = []
        way = ways[found[len(links)]]
        for follower in way:
            if groups[follower] not in places:
                places[groups[follower]] = len(found)
                found.append(follower)
            row.append(places[groups[follower]])
        links.append(row)
    return without_idle(names, links, [marks[at] for at in found])


def opposite(machine):
    marks = tuple([not mark for mark in machine.marks])
    return Machine(machine.variables, machine.ways, marks, (machine.beside[1], machine.beside[0]))


def same_machines(machine, other):
    if machine.variables != other.variables or machine.marks != other.marks:
        return False
    return machine.ways == other.ways


def holds_at(machine, indexes):
    """Whether it holds at the tuple with these digit rows, from the lowest place on."""
    state = 0
    for index in indexes:
        state = machine.ways[state][index]
    return machine.marks[state]


def reached(machine, states, indexes):
    """The states that follow these by one of the digit rows with these numbers, each once."""
    return list({machine.ways[state][index]: True for state in states for index in indexes})


def leading_to(machine, states, indexes, targets):
    """Those of the states that one of the targets follows by one of the digit rows."""
    aims = {target: True for target in targets}
    return [state for state in states if any([machine.ways[state][index] in aims for index in indexes])]


def marked(machine, states):
    return [state for state in states if machine.marks[state]]


def all_rows(machine):
    """The numbers of all its digit rows, that of zeros first."""
    return list(range(len(machine.ways[0])))


def shortest_length(machine):
    """The least number of places of tuples at which it holds, None if it never does."""
    states = [0]
    for length in range(len(machine.marks)):
        if marked(machine, states):
            return length
        states = reached(machine, states, all_rows(machine))
    return None


def rows_that_agree(machine, numbers, place):
    """The numbers of the digit rows that have the digits of the first numbers at this place."""
    size = len(machine.variables)
    digits = tuple([number >> place & 1 for number in numbers])
    return [index for index in range(1 << size) if digit_row(index, size)[:len(digits)] == digits]


def least_number(machine, length, numbers):
    """The least number behind these first ones with which it holds, if all have at most so many places."""
    allowed = [rows_that_agree(machine, numbers, place) for place in range(length)]
    levels = [[0]]
    for indexes in allowed:
        levels.append(reached(machine, levels[-1], indexes))
    targets = marked(machine, levels[-1])
    bit = 1 << (len(machine.variables) - 1 - len(numbers))
    number = 0
    for place in reversed(range(length)):
        lower = [index for index in allowed[place] if index & bit == 0]
        sources = leading_to(machine, levels[place], lower, targets)
        if not sources:
            number = number + (1 << place)
            sources = leading_to(machine, levels[place], allowed[place], targets)
        targets = sources
    return number


def least_numbers(machine):
    """The least tuple at which it holds, None if it never does."""
    length = shortest_length(machine)
    if length is None:
        return None
    numbers = []
    for _ in machine.variables:
        numbers.append(least_number(machine, length, numbers))
    return tuple(numbers)


def holds_finitely(machine):
    """Whether it holds at finitely many tuples."""
    rows = all_rows(machine)
    holding = marked(machine, list(range(len(machine.marks))))
    states = [0]
    # Behind as many places as there are states one of them has come twice, so there are such tuples of any length.
    for _ in machine.marks:
        states = reached(machine, states, rows)
    for _ in machine.marks:
        if leading_to(machine, states, rows[1:], holding):
            return False
        states = reached(machine, states, rows)
    return True

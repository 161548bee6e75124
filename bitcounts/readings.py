"""Tests of words by their digits, read from the lowest place on, and the machines of such tests."""

from bitcounts.errors import TooManyClasses
from bitcounts.glances import rows_to_try
from bitcounts.limits import CLASSES
from bitcounts.machines import grouped, least_machine, numbered
from bitcounts.rows import applied
from bitcounts.rules import told_first
from bitcounts.spellings import ALL, explored, lowest_digits, told_at_points, without_digits

# How many states are looked at before it is asked whether they have too many classes, and how many times more
# before it is asked again.
FEW = 2000
MORE = 8
# How many states are compared at some tuples.
SOME = 600


class Reading:
    """What is read of the digits of an integer.

    `turns` has for each state the pair of the states that follow by the digits 0 and 1, or () if the test is
    settled there. `marks` has for each state whether the test holds for 0 and whether it does for -1, which
    have the same digits at all places.
    """

    def __init__(self, turns, marks):
        self.turns = turns
        self.marks = marks


def below_zero():
    return Reading(((0, 0),), ((False, True),))


def equal_to_zero():
    return Reading(((0, 1), ()), ((True, False), (False, False)))


def rest_behind(modulus, rest, digit):
    """What (modulus, rest) an integer is to have if it has this rest with this lowest digit; None if none will do."""
    if modulus & 1 == 0:
        return (modulus // 2, rest // 2) if rest & 1 == digit else None
    twice = (rest - digit) % modulus
    return modulus, (twice if twice & 1 == 0 else twice + modulus) // 2


def rests_behind(state):
    if state is None or state[0] == 1:
        return ()
    modulus, rest = state
    return rest_behind(modulus, rest, 0), rest_behind(modulus, rest, 1)


def with_rest(modulus, rest):
    """The states are pairs (modulus, rest), or None where no integer will do."""
    found = [(modulus, rest)]
    places = {(modulus, rest): 0}
    turns = []
    while len(turns) < len(found):
        turn = []
        behind = rests_behind(found[len(turns)])
        for state in behind:
            if state not in places:
                places[state] = len(found)
                found.append(state)
            turn.append(places[state])
        turns.append(tuple(turn))
    marks = [(False, False) if state is None else (state[1] == 0, state[1] == state[0] - 1) for state in found]
    return Reading(tuple(turns), tuple(marks))


def begun(values, lag, reading):
    """The first state of a word with these values at the points, as `explored` takes it."""
    known, low = lowest_digits(values, lag)
    read = 0
    for place in range(known):
        if reading.turns[read] != ():
            read = reading.turns[read][low >> place & 1]
    if reading.turns[read] == ():
        return (), 0, read
    return without_digits(values, known, low), (lag if lag > 0 else 0), read


def mark_of_number(number, read, reading):
    """Whether the test holds for an integer behind what was read."""
    while number != 0 and number != -1 and reading.turns[read] not in ((), (read, read)):
        read = reading.turns[read][number & 1]
        number = number >> 1
    return reading.marks[read][0 if number >= 0 else 1]


def mark_of(state, reading):
    """Whether the test holds for the value that the state has at 0."""
    values, _, read = state
    return mark_of_number(values[0] if values else 0, read, reading)


def look_at_classes(states, spans, reading):
    """TooManyClasses is raised if the states are more than 256 different tests at some tuples."""
    rows = rows_to_try(spans)
    signs = []
    for values, _, read in states:
        numbers = applied(rows, values) if values else [0]
        signs.append(tuple([mark_of_number(number, read, reading) for number in numbers]))
    if numbered(signs)[1] > CLASSES:
        raise TooManyClasses()


def lines_of_zero(rule, lag):
    """Sides and values at 0 of lines that are 1 where the states of a word are 0 and 0 elsewhere, its own first."""
    reading = equal_to_zero()
    values, spans = told_at_points(rule.sides, rule.starts, told_first(rule.starts))
    found, steps = explored(spans, begun(values, lag, reading), reading.turns, ALL)
    sides = [[(((row[index][0], 1),), 1) for row in steps] for index in range(len(spans))]
    return sides, [int(mark_of(state, reading)) for state in found]


def machine_of(names, sides, starts, told, lag, reading):
    """The least machine of the test that the reading holds for the word that is told of the lines by a row.

    TooManyClasses is raised if it has more than 256 classes.
    """
    values, spans = told_at_points(sides, starts, told)
    first = begun(values, lag, reading)
    most = FEW
    while True:
        found, steps = explored(spans, first, reading.turns, most)
        ways = [tuple([step[0] for step in row]) for row in steps]
        marks = [mark_of(state, reading) for state in found]
        groups = grouped(ways, marks)
        if groups is not None:
            return least_machine(names, ways, marks, groups)
        if most == FEW:
            look_at_classes(found[:SOME], spans, reading)
        most = MORE * most

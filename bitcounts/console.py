"""A console: lines that are executed at a desk."""

from bitcounts.checks import is_name
from bitcounts.desks import Desk
from bitcounts.errors import InvalidCommand
from bitcounts.relations import parting
from bitcounts.texts import read_formula, read_test

DIGITS = "0123456789"
MOST_DIGITS = 30
MOST_PAIRS = 6


def is_integer_text(text):
    digits = text[1:] if text.startswith("-") else text
    if not 1 <= len(digits) <= MOST_DIGITS or not all([sign in DIGITS for sign in digits]):
        return False
    return text == "0" or digits[0] != "0"


def row_of_texts(text):
    """The row that a claim tells, None if it tells none."""
    parts = text.split(" + ")
    pairs = [part.split(" ") for part in parts]
    if len(parts) > MOST_PAIRS or not all([len(pair) == 2 for pair in pairs]):
        return None
    if not all([is_integer_text(factor) and is_name(name) for factor, name in pairs]):
        return None
    return tuple([(int(factor), name) for factor, name in pairs])


def names_in(line):
    """The two names of the line `A and B`, None if it is no such line."""
    one, sign, other = line.partition(" and ")
    return (one, other) if sign and is_name(one) and is_name(other) else None


def numbers_shown(pairs):
    return ", ".join([f"{name}={number}" for name, number in pairs])


class Console:
    def __init__(self):
        self._desk = Desk()

    @property
    def desk(self):
        return self._desk

    def say(self, line):
        """Executes the line and returns what it shows."""
        if not isinstance(line, str):
            raise InvalidCommand(line)
        name, sign, text = line.partition(" := ")
        if sign and is_name(name):
            return self._keep(name, text)
        if line == "undo":
            self._desk.undo()
            return "ok"
        if line.startswith("drop ") and is_name(line[5:]):
            self._desk.drop(line[5:])
            return "ok"
        if line.startswith("where ("):
            return self._where(line[6:])
        names = names_in(line)
        if names is not None:
            return self._compare(names[0], names[1])
        row = row_of_texts(line[6:]) if line.startswith("claim ") else None
        if row is None:
            raise InvalidCommand(line)
        self._desk.claim(row)
        return "ok"

    def _keep(self, name, text):
        made = read_formula(text)
        self._desk[name] = made
        return f"rank {made.rank}"

    def _compare(self, name, other):
        pairs = parting(self._desk[name], self._desk[other])
        if pairs is None:
            return "same"
        return f"apart at {numbers_shown(pairs)}" if pairs else "apart"

    def _where(self, text):
        pairs = read_test(text).least
        if pairs is None:
            return "never"
        return f"at {numbers_shown(pairs)}" if pairs else "always"

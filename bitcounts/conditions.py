"""Tests: what holds or not for all values of at most three variables."""

from bitcounts.checks import numbers_by_name, numbers_by_pairs
from bitcounts.digit_rows import digit_indexes
from bitcounts.joins import is_within, joined
from bitcounts.machines import everywhere, holds_at, holds_finitely, least_numbers, opposite, same_machines


def holds_with(machine, numbers):
    """Whether the machine holds at the numbers by their names."""
    return holds_at(machine, digit_indexes([numbers[name] for name in machine.variables]))


class Test:
    def __init__(self, machine):
        self._machine = machine

    @property
    def names(self):
        return self._machine.variables

    @property
    def classes(self):
        return len(self._machine.marks)

    @property
    def least(self):
        numbers = least_numbers(self._machine)
        return None if numbers is None else tuple(zip(self._machine.variables, numbers))

    @property
    def is_finite(self):
        return holds_finitely(self._machine)

    def holds(self, pairs):
        return holds_with(self._machine, numbers_by_pairs(self, self._machine.variables, pairs))

    def of(self, **numbers):
        return holds_with(self._machine, numbers_by_name(self, self._machine.variables, numbers))

    def __and__(self, other):
        if not isinstance(other, Test):
            return NotImplemented
        return Test(joined(self._machine, other._machine, "&"))

    def __or__(self, other):
        if not isinstance(other, Test):
            return NotImplemented
        return Test(joined(self._machine, other._machine, "|"))

    def __xor__(self, other):
        if not isinstance(other, Test):
            return NotImplemented
        return Test(joined(self._machine, other._machine, "^"))

    def __invert__(self):
        return Test(opposite(self._machine))

    def __le__(self, other):
        if not isinstance(other, Test):
            return NotImplemented
        return is_within(self._machine, other._machine)

    def __eq__(self, other):
        if not isinstance(other, Test):
            return NotImplemented
        return same_machines(self._machine, other._machine)

    def __bool__(self):
        return any([mark for mark in self._machine.marks])

    def __repr__(self):
        return f"Test({len(self._machine.marks)})"


def always():
    """The test that holds everywhere."""
    return Test(everywhere())

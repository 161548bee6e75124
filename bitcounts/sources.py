"""Sources: what least rules and ranks are worked out of when they are asked for."""

from bitcounts.rules import rule_of_basis
from bitcounts.solving import Columns, least_basis, more_columns, some_columns
from bitcounts.systems import as_grid, width_of


class Source:
    """What a least rule is worked out of when it is asked for: a system, its columns if they are known, and names.

    `factors` are the sources of two formulas without a common name if it is that of their product, or None.
    """

    def __init__(self, system, known, names, factors):
        self.system = system
        self.known = known
        self.letters = names
        self.factors = factors
        self._columns = None
        self._basis = None

    @property
    def known_columns(self):
        if self._columns is None:
            self._columns = columns_of_source(self.system, self.known, self.factors)
        return self._columns

    @property
    def least_parts(self):
        if self._basis is None:
            self._basis = least_basis(solving_system(self), self.known_columns, len(self.letters))
        return self._basis


def columns_of_source(system, known, factors):
    if known is not None:
        return known
    if factors is None:
        return some_columns(system)
    return Columns((every_column(factors[0]), every_column(factors[1])), None, [])


def every_column(source):
    """All columns of the source, one by one."""
    columns = source.known_columns
    if source.factors is not None:
        return [(column, beside) for column in columns.found[0] for beside in columns.found[1]]
    return more_columns(source.system, columns, width_of(source.system)).found if columns.waiting else columns.found


def solving_system(source):
    return source.system if source.factors is None else as_grid(source.system)


def source_rank(source):
    return len(source.least_parts.parts.codes)


def source_rule(source):
    return rule_of_basis(solving_system(source), source.least_parts, source.letters)


def source_of_system(system, names):
    return Source(system, None, names, None)

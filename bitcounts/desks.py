"""Desks: formulas under names, and claims about them that are never allowed to fail."""

from bitcounts.checks import check_name, is_integer, is_name
from bitcounts.errors import (
    Busy, InvalidDeeds, InvalidNumber, InvalidValues, NothingToUndo, Parted, Refused, UnknownName,
)
from bitcounts.ties import least_failure
from bitcounts.words import formula

# How many items the deeds of each word have.
ITEMS = {"keep": 3, "drop": 2, "claim": 2, "release": 2}
MOST_PAIRS = 6


class Situation:
    """What a desk has at one time; it is never changed.

    `table` has the formulas by their names, `rows` the claims, `deeds` what was done, and `past` for each of
    these deeds the pair of the table and the rows ahead of it.
    """

    def __init__(self, table, rows, deeds, past):
        self.table = table
        self.rows = rows
        self.deeds = deeds
        self.past = past


def is_deed(value):
    if not isinstance(value, tuple) or not value or not isinstance(value[0], str):
        return False
    return ITEMS.get(value[0]) == len(value)


def check_deeds(deeds):
    for index, deed in enumerate(deeds):
        if not is_deed(deed):
            raise InvalidDeeds(index)


def check_known(table, name):
    check_name(name)
    if name not in table:
        raise UnknownName(name)


def is_factor_and_name(value):
    return isinstance(value, tuple) and len(value) == 2 and is_integer(value[0]) and is_name(value[1])


def check_row(row):
    if not isinstance(row, tuple) or not 1 <= len(row) <= MOST_PAIRS:
        raise InvalidValues(None)
    for index, pair in enumerate(row):
        if not is_factor_and_name(pair):
            raise InvalidValues(index)


def has_name(row, name):
    return any([other == name for _, other in row])


def check_claim(table, row, index):
    """Refused is raised if the claim with this index fails."""
    pairs = least_failure([(factor, table[name]) for factor, name in row])
    if pairs is not None:
        raise Refused(index) from Parted(pairs)


def kept(table, rows, name, value):
    """The table and the claims behind the deed."""
    check_name(name)
    table = {**table, name: formula(value)}
    for index, row in enumerate(rows):
        if has_name(row, name):
            check_claim(table, row, index)
    return table, rows


def dropped(table, rows, name):
    check_known(table, name)
    for index, row in enumerate(rows):
        if has_name(row, name):
            raise Refused(index)
    return {other: table[other] for other in table if other != name}, rows


def claimed(table, rows, row):
    check_row(row)
    for _, name in row:
        check_known(table, name)
    check_claim(table, row, len(rows))
    return table, (*rows, row)


def released(table, rows, index):
    if not is_integer(index) or not 0 <= index < len(rows):
        raise InvalidNumber(index)
    return table, rows[:index] + rows[index + 1:]


def done(table, rows, deed):
    """The table and the claims behind the deed."""
    if deed[0] == "keep":
        return kept(table, rows, deed[1], deed[2])
    if deed[0] == "drop":
        return dropped(table, rows, deed[1])
    if deed[0] == "claim":
        return claimed(table, rows, deed[1])
    return released(table, rows, deed[1])


def situation_behind(now, deed):
    table, rows = done(now.table, now.rows, deed)
    return Situation(table, rows, (*now.deeds, deed), (*now.past, (now.table, now.rows)))


class Desk:
    def __init__(self):
        self._now = Situation({}, (), (), ())
        self._works = False

    @property
    def names(self):
        return tuple(sorted([str(name) for name in self._now.table]))

    @property
    def claims(self):
        return self._now.rows

    @property
    def busy(self):
        return self._works

    @property
    def history(self):
        return self._now.deeds

    def __getitem__(self, name):
        check_known(self._now.table, name)
        return self._now.table[name]

    def __iter__(self):
        raise TypeError("a desk is not iterated over")

    def __contains__(self, name):
        return is_name(name) and name in self._now.table

    def __setitem__(self, name, f):
        self._do(("keep", name, f))

    def drop(self, name):
        """The name goes."""
        self._do(("drop", name))

    def claim(self, row):
        """A claim is added."""
        self._do(("claim", row))

    def release(self, index):
        """The claim with this index goes."""
        self._do(("release", index))

    def do_all(self, *deeds, watch=None):
        """Does the deeds in order, all or none, and returns their number."""
        self._check_free()
        check_deeds(deeds)
        last = self._now
        self._works = True
        try:
            for deed in deeds:
                self._now = situation_behind(self._now, deed)
                if watch is not None:
                    watch(self)
            last = self._now
        finally:
            self._now = last
            self._works = False
        return len(deeds)

    def undo(self, *, times=1):
        """Takes the last deeds back."""
        self._check_free()
        if not is_integer(times) or times < 1:
            raise InvalidNumber(times)
        first = len(self._now.deeds) - times
        if first < 0:
            raise NothingToUndo()
        table, rows = self._now.past[first]
        self._now = Situation(table, rows, self._now.deeds[:first], self._now.past[:first])

    def _check_free(self):
        if self._works:
            raise Busy()

    def _do(self, deed):
        self._check_free()
        self._now = situation_behind(self._now, deed)

"""The values of mixtures."""

from bitcounts.atoms import SILENT
from bitcounts.digit_rows import digit_indexes
from bitcounts.rules import rule_value


def joined_value(sign, one, other):
    if sign == "&":
        return one & other
    if sign == "|":
        return one | other
    return one ^ other


def value_by_steps(atom, numbers):
    """The value of an atom by the digits of the numbers of its variables."""
    state, value, place = 0, 0, 0
    for index in digit_indexes(numbers):
        state, digit = atom.steps[state][index]
        if digit != SILENT:
            value = value + (digit << place)
            place += 1
    return value + (atom.starts[state] << place)


def atom_value(atom, numbers):
    """The value of the atom at the numbers by their names."""
    if atom.shape is None:
        own = [numbers[name] for name in atom.variables]
        return value_by_steps(atom, own) if atom.bulk is None else rule_value(atom.bulk, own)
    if atom.shape[0] == "name":
        return numbers[atom.shape[1]] >> atom.shape[2]
    sign, one, other, known = atom.shape
    return joined_value(sign, mixture_value(one, numbers), mixture_value(other, numbers)) >> known


def mixture_value(mixture, numbers):
    """The value of the mixture at the numbers by their names."""
    value = mixture.constant
    for by, atom in mixture.parts:
        value = value + by * atom_value(atom, numbers)
    return value

"""Mixtures: sums of multiples of atoms and an integer, which all words are."""

from bitcounts.atoms import same_atoms


class Mixture:
    """The integer `constant` and the sum of the `pairs` of a factor, not 0, and an atom, no atom twice."""

    def __init__(self, constant, pairs):
        self.constant = constant
        self.parts = pairs


def mixed(mixture, other, factor):
    """The mixture and so many times the other one."""
    pairs = list(mixture.parts)
    for by, atom in other.parts:
        place = len(pairs)
        for at, pair in enumerate(pairs):
            if same_atoms(pair[1], atom):
                place = at
        if place == len(pairs):
            pairs.append((factor * by, atom))
        else:
            pairs[place] = (pairs[place][0] + factor * by, atom)
    left = tuple([pair for pair in pairs if pair[0] != 0])
    return Mixture(mixture.constant + factor * other.constant, left)


def same_mixtures(mixture, other):
    """Whether it is seen at once that both are the same."""
    return mixture.constant == other.constant and not mixed(mixture, other, -1).parts


def scaled_mixture(mixture, factor):
    if factor == 0:
        return Mixture(0, ())
    return Mixture(factor * mixture.constant, tuple([(factor * by, atom) for by, atom in mixture.parts]))


def mixture_names(mixture):
    """The names of all atoms, ascending; the mixture may hang on fewer."""
    parts = mixture.parts
    if len(parts) == 1:
        return parts[0][1].variables
    found = {}
    for _, atom in parts:
        for name in atom.variables:
            found[name] = True
    return tuple(sorted([str(name) for name in found]))


def is_spread(mixture):
    """Whether no two atoms have a name in common: then the mixture hangs on all of their names."""
    return sum([len(atom.variables) for _, atom in mixture.parts]) == len(mixture_names(mixture))


def is_bulky(mixture):
    return any([atom.bulk is not None for _, atom in mixture.parts])


def is_silent(mixture):
    """Whether some digits hang on further digits of the variables."""
    return any([atom.lag > 0 for _, atom in mixture.parts])


def zeros_below(factor):
    """How many zeros the factor, which is not 0, puts below the digits of a word."""
    return (factor & -factor).bit_length() - 1


def mixture_lag(mixture):
    """How many further digits of the variables the digits hang on, less than 0 if on fewer; 0 for integers."""
    return max([int(atom.lag - zeros_below(by)) for by, atom in mixture.parts], default=0)


def is_plain(atom):
    """Whether the atom is a variable with all its digits."""
    return atom.shape is not None and atom.shape[0] == "name" and atom.lag == 0


def parted(mixture):
    """The pairs whose atoms are variables, and all others."""
    linear = [pair for pair in mixture.parts if is_plain(pair[1])]
    return linear, [pair for pair in mixture.parts if not is_plain(pair[1])]


def tops_of(pairs, names):
    """For each digit row what the sum of multiples of variables, pairs of a factor and an atom, is there."""
    factors = {atom.variables[0]: by for by, atom in pairs}
    tops = [0]
    # One name after the other, the digit 0 ahead of 1.
    for name in names:
        by = factors.get(name, 0)
        tops = [top + digit for top in tops for digit in (0, by)]
    return tops


def many_lines(mixture):
    """At least the rank: of how many lines all parts are combinations, one of them that of all variables together."""
    linear, others = parted(mixture)
    return 1 + int(bool(linear)) + sum([atom.width - 1 for _, atom in others])


def common_zeros(mixture):
    """How many of the lowest digits are those of the integer alone."""
    zeros = zeros_below(mixture.parts[0][0])
    for by, _ in mixture.parts[1:]:
        if by & ((1 << zeros) - 1):
            zeros = zeros_below(by)
    return zeros


def simplest(mixture, kind):
    """A mixture of which the same is measured: of its opposite, and but for lengths of its half, it is the same."""
    if not mixture.parts or is_bulky(mixture):
        return mixture
    if mixture.parts[0][0] < 0:
        mixture = scaled_mixture(mixture, -1)
    zeros = common_zeros(mixture)
    if kind == "length" or zeros == 0 or mixture.constant & ((1 << zeros) - 1):
        return mixture
    return Mixture(mixture.constant >> zeros, tuple([(by >> zeros, atom) for by, atom in mixture.parts]))

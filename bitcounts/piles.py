"""Piles: sums of a mixture and of multiples of terms, which all formulas are."""

from bitcounts.atoms import rank_by_heights
from bitcounts.digit_rows import digit_indexes
from bitcounts.evaluations import mixture_value
from bitcounts.lines import (
    lines_behind, lines_of_machine, lines_of_mixture, lines_system, lines_value, product_of_lines, same_lines,
    scaled_lines,
)
from bitcounts.machines import holds_at, same_machines
from bitcounts.measuring import measured_numbers
from bitcounts.mixed_rules import mixture_rule, mixture_system
from bitcounts.mixtures import Mixture, mixed, mixture_names, same_mixtures, scaled_mixture
from bitcounts.rules import Rule, rows_system, rule_value, same_rules, scaled
from bitcounts.sources import Source, source_of_system, source_rank, source_rule
from bitcounts.systems import several_system, system_of_product, width_of
from bitcounts.walks import is_linear

# With more lines than these, least rules tell it more quickly: lines of one formula, or for all digit rows of one among
# several, or of one of these that is measured; of factors without a common name, of other factors, and of products.
MOST_LINES = 40
FEW_MEASURED = 12
FEW_LINES = 6
FEWEST_LINES = 3
FEW_PRODUCTS = 16
# All others are measured.
KINDS_OF_LINES = ("lines", "sum", "rows", "product")
# Numbers for each name by which it is tried whether values differ.
SOME_NUMBERS = ((5, 12), (6, 1), (10, 3))


class Added:
    """A pile, the `summand`, added up over `ranges`: pairs of a name and a machine that holds for few of its numbers.

    The names ascend, and no machine hangs on another one's name. The `lines` tell the sum; the summand may be None.
    """

    def __init__(self, pile, ranges, lines):
        self.summand = pile
        self.ranges = ranges
        self.lines = lines


def added_over(pile, machine, name, lines):
    """The pile added up over the numbers of the name for which the machine holds, which these lines tell."""
    if is_single(pile) and pile.terms[0][1].shape is not None and pile.terms[0][1].shape[0] == "added":
        by, inner = pile.terms[0][0], pile.terms[0][1].shape[1]
        if inner.summand is None:
            return Added(pile, ((name, machine),), lines)
        hung = [other for letter, way in inner.ranges for other in (letter, *way.variables)]
        if name not in hung and not any([letter in machine.variables for letter, _ in inner.ranges]):
            before = [pair for pair in inner.ranges if pair[0] < name]
            behind = [pair for pair in inner.ranges if pair[0] > name]
            return Added(scaled_pile(inner.summand, by), (*before, (name, machine), *behind), lines)
    return Added(pile, ((name, machine),), lines)


class Term:
    """A formula that is told by its shape, by its least rule, or by the source of it.

    The `shape` tells its values quickly, or is None. It is a pair of a kind and what it is about: a mixture that is
    measured, for "held" a machine, for "added" an Added, for "sum" a pile, and for "times" a pair of piles. They stand
    so `deep` within each other. The `origin` is a Rule, a Source, or None where the shape tells the rule. The names on
    which the formula hangs, and those of the shape, are among its `letters`; its rank is not above `most`.
    `integer_lines` are its lines, alone in a tuple, which is empty if it is not told by few integer lines.
    """

    def __init__(self, origin, names, most, shape, deep):
        self.origin = origin
        self.letters = names
        self.most = most
        self.shape = shape
        self.deep = deep
        self._told = None
        self._source = None
        self._integer_lines = None

    @property
    def source(self):
        if self._source is None:
            self._source = source_of(self.origin, self.shape)
        return self._source

    @property
    def told(self):
        if self._told is None:
            self._told = self.origin if isinstance(self.origin, Rule) else source_rule(self.source)
        return self._told

    @property
    def integer_lines(self):
        if self._integer_lines is None:
            self._integer_lines = lines_of_shape(self.shape)
        return self._integer_lines


def source_of(origin, shape):
    """The source of a term."""
    if isinstance(origin, Rule):
        return source_of_system(rows_system(origin), origin.variables)
    if origin is not None:
        return origin
    if shape[0] == "times":
        return source_of_product(shape[1][0], shape[1][1])
    lines = lines_of_shape(shape)[0]
    return source_of_system(lines_system(lines), lines.letters)


def compact_source(pile, most):
    """The source of the pile, by its least rule if more numbers than `most`, and than its rank, tell columns apart."""
    source = pile.source
    if width_of(source.system) <= most or width_of(source.system) <= pile.rank + 1:
        return source
    return source_of_system(rows_system(pile.rule), pile.rule.variables)


def source_of_product(pile, beside):
    """The source of a product by those of its factors, or by its lines."""
    apart = len(all_letters([pile_names(pile), pile_names(beside)])) == len(pile_names(pile)) + len(pile_names(beside))
    one, other = pile.source, beside.source
    if apart:
        one, other = compact_source(pile, FEW_LINES), compact_source(beside, FEW_LINES)
    elif width_of(one.system) * width_of(other.system) > FEW_PRODUCTS:
        lines = lines_of_shape(("times", (pile, beside)))
        if lines:
            return source_of_system(lines_system(lines[0]), lines[0].letters)
        one, other = compact_source(pile, FEWEST_LINES), compact_source(beside, FEWEST_LINES)
    names = all_letters([one.letters, other.letters])
    system = system_of_product(one.system, one.letters, other.system, other.letters, names)
    return Source(system, None, names, (one, other) if apart else None)


def lines_of_shape(shape):
    if shape is None:
        return ()
    kind, about = shape
    if kind == "held":
        return (lines_of_machine(about),)
    if kind == "added":
        return (about.lines,)
    if kind == "sum":
        return pile_lines(about)
    if kind == "times":
        one, other = pile_lines(about[0]), pile_lines(about[1])
        return product_of_lines(one[0], other[0], MOST_LINES) if one and other else ()
    return ()


def pile_lines(pile):
    """The lines of the pile alone in a tuple; an empty one if it is not told by few integer lines."""
    made = lines_of_mixture(pile.mixture)
    for by, term in pile.terms:
        if not term.integer_lines:
            return ()
        made = lines_behind(made, term.integer_lines[0], by) if made.part else scaled_lines(term.integer_lines[0], by)
    return (made,) if len(made.starts) <= MOST_LINES else ()


def same_terms(term, other):
    """Whether it is seen at once that both terms are the same."""
    if term.shape is None or other.shape is None:
        return term.shape is None and other.shape is None and same_rules(term.told, other.told)
    if term.shape[0] != other.shape[0]:
        return False
    if term.shape[0] == "held":
        return same_machines(term.shape[1], other.shape[1])
    if term.shape[0] == "added":
        return same_lines(term.shape[1].lines, other.shape[1].lines)
    if term.shape[0] == "sum":
        return same_piles(term.shape[1], other.shape[1])
    if term.shape[0] == "times":
        return same_pairs(term.shape[1], other.shape[1])
    return same_mixtures(term.shape[1], other.shape[1])


def same_pairs(pair, other):
    """Whether it is seen at once that the piles of both pairs are the same, in any order."""
    if same_piles(pair[0], other[0]) and same_piles(pair[1], other[1]):
        return True
    return same_piles(pair[0], other[1]) and same_piles(pair[1], other[0])


def same_piles(pile, other):
    """Whether it is seen at once that both piles are the same."""
    if len(pile.terms) != len(other.terms) or not same_mixtures(pile.mixture, other.mixture):
        return False
    return is_nothing(piled(pile, other, -1))


def depth_of(pile):
    return max([int(term.deep) for _, term in pile.terms], default=0)


class Pile:
    """A mixture and the pairs of a factor, not 0, and a term.

    The `source` is what its least `rule` and its `rank` are worked out of; TooMany is raised if that is above 16.
    """

    def __init__(self, mixture, terms):
        self.mixture = mixture
        self.terms = terms
        self._pile_source = None
        self._pile_rule = None
        self._pile_rank = None

    @property
    def source(self):
        if self._pile_source is None:
            self._pile_source = source_of_pile(self)
        return self._pile_source

    @property
    def rule(self):
        if self._pile_rule is None:
            self._pile_rule = rule_of_pile(self)
        return self._pile_rule

    @property
    def rank(self):
        if self._pile_rank is None:
            self._pile_rank = rank_of_pile(self)
        return self._pile_rank


def pile_of_integer(number):
    return Pile(Mixture(number, ()), ())


def shape_names(shape):
    """The names of what the shape is about."""
    if shape is None:
        return ()
    kind, about = shape
    if kind == "held":
        return about.variables
    if kind == "added":
        return about.lines.letters
    if kind == "sum":
        return pile_names(about)
    if kind == "times":
        return (*pile_names(about[0]), *pile_names(about[1]))
    return mixture_names(about)


def all_letters(groups):
    """The names in all these tuples of names, ascending."""
    found = {name: True for names in groups for name in names}
    return tuple(sorted([str(name) for name in found]))


def single_pile(term):
    return Pile(Mixture(0, ()), ((1, term),))


def pile_of_shape(source, names, most, shape, deep):
    """The pile of a single term."""
    return single_pile(Term(source, all_letters([names, shape_names(shape)]), most, shape, deep))


def pile_of_rule(rule, shape):
    return pile_of_shape(rule, rule.variables, len(rule.starts), shape, 0)


def piled(pile, other, factor):
    """The pile and so many times the other one."""
    terms = list(pile.terms)
    for by, term in other.terms:
        place = len(terms)
        for at, pair in enumerate(terms):
            if same_terms(pair[1], term):
                place = at
        if place == len(terms):
            terms.append((factor * by, term))
        else:
            terms[place] = (terms[place][0] + factor * by, term)
    left = tuple([pair for pair in terms if pair[0] != 0])
    return Pile(mixed(pile.mixture, other.mixture, factor), left)


def scaled_pile(pile, factor):
    if factor == 0:
        return pile_of_integer(0)
    return Pile(scaled_mixture(pile.mixture, factor), tuple([(factor * by, term) for by, term in pile.terms]))


def pile_names(pile):
    """The names of all that is in the pile, ascending; it may hang on fewer."""
    if not pile.terms:
        return mixture_names(pile.mixture)
    if len(pile.terms) == 1 and not pile.mixture.parts:
        return pile.terms[0][1].letters
    return all_letters([mixture_names(pile.mixture), *[term.letters for _, term in pile.terms]])


def source_of_pile(pile):
    if is_single(pile) and pile.terms[0][0] == 1:
        return pile.terms[0][1].source
    lines = pile_lines(pile) if pile.terms else ()
    if lines and len(lines[0].starts) << len(lines[0].letters) <= MOST_LINES:
        return source_of_system(lines_system(lines[0]), lines[0].letters)
    names = pile_names(pile)
    pieces = [piece_of_term(by, term) for by, term in pile.terms]
    if pile.mixture.parts or pile.mixture.constant or not pieces:
        pieces.append((1, mixture_system(pile.mixture, names), names))
    return source_of_system(several_system(pieces, names) if pile.terms else pieces[0][1], names)


def is_single(pile):
    """Whether the pile is a multiple of one term."""
    return len(pile.terms) == 1 and not pile.mixture.parts and pile.mixture.constant == 0


def rule_of_pile(pile):
    if not pile.terms and is_linear(pile.mixture):
        return mixture_rule(pile.mixture)
    if is_single(pile):
        return scaled(pile.terms[0][1].told, pile.terms[0][0])
    return source_rule(pile.source)


def rank_of_pile(pile):
    if is_single(pile):
        term = pile.terms[0][1]
        return len(term.told.starts) if isinstance(term.origin, Rule) else source_rank(term.source)
    if pile.terms:
        return source_rank(pile.source)
    if is_linear(pile.mixture):
        return 2 if pile.mixture.parts else int(pile.mixture.constant != 0)
    known = rank_by_heights(pile.mixture.parts[0][1]) if len(pile.mixture.parts) == 1 else None
    return source_rank(pile.source) if known is None else known


def is_nothing(pile):
    return not pile.terms and not pile.mixture.parts and pile.mixture.constant == 0


def piece_of_term(by, term):
    """What `several_system` takes for so many times the term."""
    source = term.source
    most = MOST_LINES if source.system.kind in KINDS_OF_LINES else FEW_MEASURED
    if width_of(source.system) << len(source.letters) <= most:
        return by, source.system, source.letters
    return by, rows_system(term.told), term.told.variables


def term_value(term, numbers):
    """The value of the term at the numbers by their names."""
    if term.shape is None:
        return rule_value(term.told, [numbers[name] for name in term.told.variables])
    kind, about = term.shape
    if kind == "held":
        return int(holds_at(about, digit_indexes([numbers[name] for name in about.variables])))
    if kind == "added":
        return lines_value(about.lines, [numbers[name] for name in about.lines.letters])
    if kind == "sum":
        return pile_value(about, numbers)
    if kind == "times":
        return pile_value(about[0], numbers) * pile_value(about[1], numbers)
    return measured_numbers(kind, [mixture_value(about, numbers)])[0]


def pile_value(pile, numbers):
    """The value of the pile at the numbers by their names."""
    value = mixture_value(pile.mixture, numbers)
    for by, term in pile.terms:
        value = value + by * term_value(term, numbers)
    return value


def is_seen_to_hang(pile, names):
    """Whether some values show that the pile hangs on each of these names, which are all of its own."""
    if len(names) > len(SOME_NUMBERS):
        return False
    one = {name: pair[0] for name, pair in zip(names, SOME_NUMBERS)}
    other = {name: pair[1] for name, pair in zip(names, SOME_NUMBERS)}
    value, beside = pile_value(pile, one), pile_value(pile, other)
    for letter in names:
        if pile_value(pile, {**one, letter: other[letter]}) == value:
            if pile_value(pile, {**other, letter: one[letter]}) == beside:
                return False
    return True

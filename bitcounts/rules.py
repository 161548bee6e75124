"""Least rules of formulas, and how they are worked out for sums and products."""

from bitcounts.digit_rows import digit_indexes, digit_row, own_rows, united
from bitcounts.errors import TooMany
from bitcounts.limits import TOGETHER
from bitcounts.rows import applied, crossed, fractions, moved, row_of
from bitcounts.solving import Columns, all_columns, least_basis, least_lines, links_solved
from bitcounts.systems import System, as_grid, system_of_product

HIGHEST_POWER = 3


class Rule:
    """A least rule: its lines are the basic parts of a formula, the formula itself first.

    `variables` are the ascending names on which the values hang, `parts` the basic parts (k, r), `sides`
    has for each digit row a row of fractions for each line, and `starts` the values of the lines at 0.
    """

    def __init__(self, variables, parts, links, starts):
        self.variables = variables
        self.parts = parts
        self.starts = starts
        self._links = links
        self._sides = None

    @property
    def sides(self):
        if self._sides is None:
            self._sides = sides_of(self._links)
        return self._sides


class Slopes:
    """How much more than twice its value a formula has at each digit row; the first such number that is not 0."""

    def __init__(self, numbers, first):
        self.numbers = numbers
        self.first = first


def sides_of(links):
    """The sides of a rule, which may be told, or still to be worked out."""
    if isinstance(links, Slopes):
        return linear_sides(links)
    return links if isinstance(links, tuple) else links_solved(links)


def linear_sides(slopes):
    """The sides of two lines: the formula, and twice the formula and the first slope."""
    sides = []
    for slope in slopes.numbers:
        behind = row_of([2 * slopes.first - 2 * slope, slope], slopes.first)
        next_behind = row_of([2 * slopes.first - 4 * slope, 2 * slope + slopes.first], slopes.first)
        sides.append((behind, next_behind))
    return tuple(sides)


def linear_rule(names, number, tops):
    """The least rule of the number and a sum of multiples of these variables, by what this is at each digit row."""
    slopes = [top - number for top in tops]
    index = [at for at, slope in enumerate(slopes) if slope][0]
    parts = (0, tuple([0 for _ in names])), (1, digit_row(index, len(names)))
    return Rule(names, parts, Slopes(slopes, slopes[index]), (number, number + tops[index]))


def constant(number):
    """The least rule of an integer."""
    if number == 0:
        return Rule((), (), ((),), ())
    return Rule((), ((0, ()),), (((((0, 1),), 1),),), (number,))


def variable(name):
    """The least rule of a variable; its lines are m and 2 * m + 1."""
    even = (((0, 2),), 1), (((0, 2), (1, 1)), 1)
    odd = (((1, 1),), 1), (((0, -2), (1, 3)), 1)
    return Rule((name,), ((0, (0,)), (1, (1,))), (even, odd), (0, 1))


def is_variable(rule):
    return len(rule.variables) == 1 and same_rules(rule, variable(rule.variables[0]))


def same_rules(rule, other):
    if rule.variables != other.variables or rule.starts != other.starts or rule.parts != other.parts:
        return False
    return rule.sides == other.sides


def rule_value(rule, numbers):
    """The value at these numbers, one for each variable."""
    lines = rule.starts
    for index in digit_indexes(numbers)[::-1]:
        lines = applied(rule.sides[index], lines)
    return lines[0] if rule.starts else 0


def rule_equations(rule):
    """For each line, for each digit row, the fractions by which it is made of the lines."""
    size = len(rule.starts)
    return tuple([tuple([fractions(side[at], size) for side in rule.sides]) for at in range(size)])


def widened(rule, names):
    """The sides of the rule for the digit rows of these names, among which are its own."""
    return [rule.sides[index] for index in own_rows(rule.variables, names)]


def minimal_rule(names, sides, starts, told):
    """The least rule of the sum of lines by the row `told`.

    The lines have integers as values, `starts` at 0, and those at 2 * x + e are made of those at x by the
    side of e. TooMany is raised if the rank is greater than 16.
    """
    return solved_rule(System("rows", list(starts), sides, told, None), None, names)


def solved_rule(system, known, names):
    """The least rule that the system tells, by its columns if they are known."""
    return rule_of_basis(system, least_basis(system, known, len(names)), names)


def rule_of_basis(system, basis, names):
    """The least rule that the system tells, by its basic parts."""
    used, labels, links, starts = least_lines(system, basis, names)
    return Rule(used, labels, links, starts)


def told_first(starts):
    """The row that tells the first line, where there is one."""
    return (((0, 1),), 1) if starts else ((), 1)


def told_both(rule, other, factor):
    """The row that tells the first line of the rule and so many times that of the other one behind it."""
    own = ((0, 1),) if rule.starts else ()
    beside = ((len(rule.starts), factor),) if other.starts else ()
    return own + beside, 1


def side_by_side(rule, other):
    """The names of both, and the sides and values at 0 of the lines of both, one behind the other."""
    names = united(rule.variables, other.variables)
    size = len(rule.starts)
    sides = []
    for side, beside in zip(widened(rule, names), widened(other, names)):
        sides.append((*side, *[moved(row, size) for row in beside]))
    return names, sides, rule.starts + other.starts


def added(rule, other):
    """The least rule of the sum."""
    names, sides, starts = side_by_side(rule, other)
    return minimal_rule(names, sides, starts, told_both(rule, other, 1))


class Block:
    """Lines for the digit rows of some names, their values at 0, and what is told of them, by place and factor."""

    def __init__(self, names, sides, starts, pairs):
        self.letters = names
        self.moves = sides
        self.starts = starts
        self.part = pairs


def rule_block(rule, factor):
    """The lines of so many times the formula with this rule."""
    return Block(rule.variables, rule.sides, rule.starts, ((0, factor),) if rule.starts else ())


def sum_system(blocks):
    """The system of the sum of what is told of the lines of all blocks, and the names of all."""
    names = ()
    for block in blocks:
        names = united(names, block.letters)
    sides = [[] for _ in range(1 << len(names))]
    told = []
    size = 0
    for block in blocks:
        for index, own in enumerate(own_rows(block.letters, names)):
            sides[index] = [*sides[index], *[moved(row, size) for row in block.moves[own]]]
        told.extend([(place + size, factor) for place, factor in block.part])
        size = size + len(block.starts)
    starts = [start for block in blocks for start in block.starts]
    return System("rows", starts, sides, (tuple(told), 1), None), names


def scaled(rule, factor):
    """The least rule of so many times the formula."""
    if factor == 0:
        return constant(0)
    starts = [factor * start for start in rule.starts]
    return Rule(rule.variables, rule.parts, rule.sides, tuple(starts))


def rows_system(rule):
    return System("rows", list(rule.starts), rule.sides, told_first(rule.starts), None)


def product_system(rule, other):
    """The system of the product of two rules that hang on some names, its columns if they are known, and all names."""
    names = united(rule.variables, other.variables)
    one, two = rows_system(rule), rows_system(other)
    system = system_of_product(one, rule.variables, two, other.variables, names)
    if len(names) < len(rule.variables) + len(other.variables):
        return system, None, names
    return as_grid(system), Columns((all_columns(one), all_columns(two)), None, []), names


def check_product(rule, other):
    """The errors of a product that are seen at once."""
    _ = united(rule.variables, other.variables)
    if len(rule.starts) * len(other.starts) > TOGETHER:
        raise TooMany()


def multiplied(rule, other):
    """The least rule of the product."""
    check_product(rule, other)
    if not rule.variables:
        return scaled(other, rule.starts[0] if rule.starts else 0)
    if not other.variables:
        return scaled(rule, other.starts[0] if other.starts else 0)
    system, columns, names = product_system(rule, other)
    return solved_rule(system, columns, names)


def product_lines(rule, other):
    """The names of both, and the sides and values at 0 of the products of the lines of both, the first ones' first."""
    names = united(rule.variables, other.variables)
    size = len(other.starts)
    sides = []
    for side, beside in zip(widened(rule, names), widened(other, names)):
        sides.append(tuple([crossed(row, against, size) for row in side for against in beside]))
    return names, sides, tuple([start * beside for start in rule.starts for beside in other.starts])

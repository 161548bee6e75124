"""And, or, exclusive or of two words, digit by digit.

One of the words is ahead, the one with the lesser lag: of it so many more digits are known behind the same digits
of the variables. What its digits make of those of the other word, which hang on further digits of the variables, is
told by lines for single digits of the other word.
"""

from bitcounts.digit_rows import own_rows, united
from bitcounts.glances import FEW, look_at_rank, worth
from bitcounts.rules import constant, minimal_rule, rule_value
from bitcounts.spellings import spelled


class Pairs:
    """The pairs of states of two words that come up, as (state, state of the other, how far the one is ahead).

    `links` has for each of them, for each digit row, (place of the pair that follows, factor, digit of the one
    word, digit of the other). `depth` is how far the one word is ahead in the end.
    """

    def __init__(self, found, links, depth):
        self.found = found
        self.links = links
        self.depth = depth


def paired_words(first, second, names, depth):
    own, beside = own_rows(first.variables, names), own_rows(second.variables, names)
    found = [(0, 0, first.known - second.known)]
    places = {found[0]: 0}
    links = []
    while len(links) < len(found):
        state, against, ahead = found[len(links)]
        row = []
        for index, index_beside in zip(own, beside):
            follower, factor, digit = first.steps[state][index]
            other, factor_beside, digit_beside = second.steps[against][index_beside]
            pair = follower, other, ahead + factor - factor_beside
            if pair not in places:
                places[pair] = len(found)
                found.append(pair)
            row.append((places[pair], factor, digit, digit_beside))
        links.append(row)
    return Pairs(found, links, depth)


def without_zeros(entries):
    return tuple([(place, top) for place, top in entries if top != 0])


def by_digit(sign, digit):
    """What the digit makes of the other word's digit 0, and how much more it makes of the digit 1."""
    low = worth(sign, digit, 0)
    return low, worth(sign, digit, 1) - low


def pair_row(sign, pairs, link, many):
    """The row of a pair; behind the lines of pairs stand those of digits, for each place of so many states."""
    place, factor, digit, digit_beside = link
    _, other, ahead = pairs.found[place]
    one = len(pairs.found) + pairs.depth * many
    if factor == 1:
        return ((place, 1),), 1
    if ahead == 0:
        return without_zeros([(place, 2), (one, worth(sign, digit, digit_beside))]), 1
    low, more = by_digit(sign, digit)
    return without_zeros([(place, 2), (len(pairs.found) + (ahead - 1) * many + other, more), (one, low)]), 1


def digit_line(pairs, many, step, place):
    """The row of the digit of a state at this place."""
    follower, factor, digit = step
    then = place + 1 - factor
    if then < 0:
        return without_zeros([(len(pairs.found) + pairs.depth * many, digit)]), 1
    return ((len(pairs.found) + then * many + follower, 1),), 1


def all_sides(sign, pairs, second, names):
    many = len(second.steps)
    one = ((len(pairs.found) + pairs.depth * many, 1),), 1
    sides = []
    for index, index_beside in enumerate(own_rows(second.variables, names)):
        rows = [pair_row(sign, pairs, links[index], many) for links in pairs.links]
        for place in range(pairs.depth):
            rows.extend([digit_line(pairs, many, steps[index_beside], place) for steps in second.steps])
        rows.append(one)
        sides.append(rows)
    return sides


def all_starts(sign, pairs, first, second):
    starts = []
    for state, other, ahead in pairs.found:
        starts.append(worth(sign, first.worths[state][0], second.worths[other][0] >> ahead))
    for place in range(pairs.depth):
        starts.extend([values[0] >> place & 1 for values in second.worths])
    return [*starts, 1]


def told_in_front(sign, pairs, first, second):
    """The row that tells the word: the digits known of both, those known of the one alone, and the first pair."""
    many = len(second.steps)
    one = len(pairs.found) + pairs.depth * many
    low = worth(sign, first.low & ((1 << second.known) - 1), second.low)
    entries = [(0, 1 << first.known)]
    for place in range(second.known, first.known):
        base, more = by_digit(sign, first.low >> place & 1)
        entries.append((len(pairs.found) + (place - second.known) * many, more << place))
        low = low + (base << place)
    return without_zeros([*entries, (one, low)]), 1


def blended(sign, rule, lag, other, lag_beside):
    """The least rule of the first word `&`, `|` or `^` the other one."""
    names = united(rule.variables, other.variables)
    if not names:
        return constant(worth(sign, rule_value(rule, []), rule_value(other, [])))
    # An integer has no lag of its own.
    lag = lag if rule.variables else lag_beside
    lag_beside = lag_beside if other.variables else lag
    if lag > lag_beside:
        return blended(sign, other, lag_beside, rule, lag)
    first, second = spelled(rule, lag), spelled(other, lag_beside)
    depth = lag_beside - lag
    if len(second.steps) * (len(first.steps) + depth) > FEW:
        look_at_rank(sign, first, second, names)
    pairs = paired_words(first, second, names, depth)
    sides, starts = all_sides(sign, pairs, second, names), all_starts(sign, pairs, first, second)
    return minimal_rule(names, sides, starts, told_in_front(sign, pairs, first, second))

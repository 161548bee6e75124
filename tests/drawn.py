"""Words, formulas and tests drawn by a fixed seed, each with what it says of the numbers m and n."""

import operator

from bitcounts.counting import length, one_if, ones, raised
from bitcounts.errors import LimitError
from bitcounts.words import formula, rests, same, var

M, N = var("m"), var("n")
SIGNS = [operator.and_, operator.or_, operator.xor]


def drawn_sum(chance):
    a, b, c = chance.randint(-1, 2), chance.randint(-1, 2), chance.randint(-5, 5)
    return a * M + b * N + c, lambda m, n: a * m + b * n + c


def drawn_word(chance):
    """A word; another one is drawn where a limit is met."""
    while True:
        one, first = drawn_sum(chance)
        if chance.random() < 0.5:
            return one, first
        other, second = drawn_sum(chance)
        sign = chance.choice(SIGNS)
        try:
            return sign(one, other), lambda m, n: sign(first(m, n), second(m, n))
        except LimitError:
            continue


def drawn_formula(chance):
    """A formula of one of several kinds; another one is drawn where a limit is met."""
    while True:
        try:
            return formula_of_kind(chance, chance.randrange(6))
        except LimitError:
            continue


def formula_of_kind(chance, kind):
    one, first = drawn_word(chance)
    if kind == 0:
        return formula(one), first
    if kind == 1:
        return ones(one), lambda m, n: bin(abs(first(m, n))).count("1")
    if kind == 2:
        return length(one), lambda m, n: abs(first(m, n)).bit_length()
    if kind == 3:
        base = chance.choice([-3, -1, 2])
        return raised(base, one), lambda m, n: base ** bin(abs(first(m, n))).count("1")
    if kind == 4:
        test, holds = drawn_test(chance)
        return one_if(test), lambda m, n: int(holds(m, n))
    other, second = drawn_sum(chance)
    return one * other, lambda m, n: first(m, n) * second(m, n)


def drawn_test(chance):
    one, first = drawn_word(chance)
    other, second = drawn_sum(chance)
    kind = chance.randrange(4)
    if kind == 0:
        return one < other, lambda m, n: first(m, n) < second(m, n)
    if kind == 1:
        return same(one, other), lambda m, n: first(m, n) == second(m, n)
    if kind == 2:
        rest = chance.randrange(3)
        return rests(other, 3, rest), lambda m, n: second(m, n) % 3 == rest
    return one >= other, lambda m, n: first(m, n) >= second(m, n)

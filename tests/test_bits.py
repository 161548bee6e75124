"""Words by `& | ^ ~ << >>`: values, least rules, names, and wrong operands."""

import operator
import random
import unittest

from bitcounts.errors import InvalidNumber, NotAVariable, TooMany, TooManyNames
from bitcounts.formulas import Formula
from bitcounts.words import Word, formula, var, word
from tests.brute import all_points, least_rule
from tests.support import Other, raised, told

M, N, K, P = var("m"), var("n"), var("k"), var("p")
GREATEST = 10 ** 100
BITS = {"&": operator.and_, "|": operator.or_, "^": operator.xor}
SUMS = {"+": operator.add, "-": operator.sub}
OTHERS = [True, False, None, "m", "", (), (1,), [1], {"m": 1}, b"m", Other(), Other]


def great_numbers(chance, count):
    edges = [0, 1, 2, GREATEST, GREATEST - 1, 2 ** 332, 2 ** 332 - 1]
    return [chance.choice(edges) for _ in range(count)] + [chance.randrange(GREATEST) for _ in range(count)]


class Values(unittest.TestCase):
    def check(self, made, function, most=20):
        self.assertIs(type(made), Word)
        for m in range(most):
            for n in range(most):
                self.assertEqual(made.of(m=m, n=n), function(m, n), (m, n))
        chance = random.Random(5)
        for m, n in zip(great_numbers(chance, 8), great_numbers(chance, 8)):
            self.assertEqual(made.of(m=m, n=n), function(m, n), (m, n))
            self.assertIs(type(made.of(m=m, n=n)), int)

    def test_two_variables(self):
        for act in BITS.values():
            self.check(act(M, N), act)
            self.check(act(N, M), act)

    def test_values_below_zero(self):
        for act in BITS.values():
            self.check(act(-M, N), lambda m, n: act(-m, n))
            self.check(act(M - N, N - 3), lambda m, n: act(m - n, n - 3))
            self.check(act(~M, -N - 2), lambda m, n: act(~m, -n - 2))

    def test_integers_on_either_side(self):
        for number in (0, 1, -1, 5, -6, 12, 64, -100, 1000, -1024):
            for act in BITS.values():
                self.check(act(M, number), lambda m, n: act(m, number))
                self.check(act(number, M), lambda m, n: act(number, m))
                self.assertEqual(act(word(number), M), act(M, number))
        for number in (0, 1, -1, 5, -6):
            for act in BITS.values():
                self.check(act(M - N, number), lambda m, n: act(m - n, number))

    def test_greatest_integers(self):
        for number in (10 ** 6, -10 ** 6):
            self.check((M + number) & 1, lambda m, n: (m + number) & 1)
            self.check((M & 7) & number, lambda m, n: m & 7 & number)
            self.check((M & 7) | number, lambda m, n: m & 7 | number)
            self.check(number ^ (M & 7), lambda m, n: number ^ (m & 7))

    def test_integers_alone(self):
        for one in (0, 6, -6, 10 ** 6):
            for other in (0, 3, -5, -10 ** 6):
                for act in [*BITS.values(), *SUMS.values()]:
                    for made in (act(word(one), word(other)), act(word(one), other), act(one, word(other))):
                        self.assertIs(type(made), Word)
                        self.assertEqual((made.names, made.of()), ((), act(one, other)))

    def test_complement(self):
        self.check(~M, lambda m, n: ~m)
        self.check(~(M - N), lambda m, n: ~(m - n))
        self.check(~(M & -N), lambda m, n: ~(m & -n))
        self.assertEqual([(~word(c)).of() for c in (0, 5, -1, -7)], [-1, -6, 0, 6])
        self.assertEqual((5 & word(-2)).of(), 4)

    def test_shifts_to_the_left(self):
        for shift in range(9):
            self.check(M << shift, lambda m, n: m << shift)
            self.check((N - M) << shift, lambda m, n: (n - m) << shift)
            self.check(word(-3) << shift, lambda m, n: -3 << shift)

    def test_shifts_to_the_right(self):
        for shift in range(5):
            self.check(M >> shift, lambda m, n: m >> shift, 40)
            self.check((M >> shift) ^ N, lambda m, n: (m >> shift) ^ n, 40)
            self.check(M & (M >> shift), lambda m, n: m & (m >> shift), 40)
            self.check((M >> shift) + N - (N >> 1), lambda m, n: (m >> shift) + n - (n >> 1), 40)
            self.check(((M >> shift) << 2) - N, lambda m, n: ((m >> shift) << 2) - n, 40)
        self.check(((M >> 2) + N) | M, lambda m, n: ((m >> 2) + n) | m, 40)

    def test_multiples(self):
        for factor in range(-16, 17):
            self.check(factor * (M ^ N), lambda m, n: factor * (m ^ n), 9)
            self.check((M & -N) * factor, lambda m, n: factor * (m & -n), 9)

    def test_great_factors(self):
        self.check((16 * (M << 8)) ^ (16 * (N << 8)), lambda m, n: (4096 * m) ^ (4096 * n))
        self.check((16 * (M << 8)) & N, lambda m, n: (4096 * m) & n)
        self.check(N ^ (M << 8), lambda m, n: n ^ (m << 8))
        self.check((15 * (M << 8)) & 15, lambda m, n: 0)
        self.check(15 * ((M << 8) - M) + 16 * (N << 8), lambda m, n: 3825 * m + 4096 * n)
        self.check(15 * (15 * (15 * M)) & 1, lambda m, n: m & 1)
        self.check((M << 4) & (3 * N), lambda m, n: 16 * m & 3 * n)

    def test_shifts_both_ways_side_by_side(self):
        self.check((M >> 4) ^ (N << 8), lambda m, n: (m >> 4) ^ (n << 8), 40)
        self.check(((M >> 4) & N) | (M >> 2), lambda m, n: ((m >> 4) & n) | (m >> 2), 40)
        self.check(((M << 4) & N) ^ (N >> 3), lambda m, n: ((m << 4) & n) ^ (n >> 3), 40)
        self.check(16 * (M >> 4) | (N & 5), lambda m, n: 16 * (m >> 4) | (n & 5), 40)

    def test_three_variables(self):
        made = (K & ~M) | (M & N) ^ (K - N)
        for k in range(9):
            for m in range(9):
                for n in range(9):
                    self.assertEqual(made.of(k=k, m=m, n=n), (k & ~m) | (m & n) ^ (k - n))
                    self.assertEqual(made.at((("k", k), ("m", m), ("n", n))), (k & ~m) | (m & n) ^ (k - n))


class ManyWords(unittest.TestCase):
    """Words made at random, against Python's own integers."""

    def setUp(self):
        self.chance = random.Random(11)

    def leaf(self):
        at = self.chance.randrange(3)
        shift = self.chance.choice([0, 0, 0, 0, 1, 2, 4])
        if self.chance.random() < 0.2:
            number = self.chance.choice([0, 1, -1, 2, 3, -5, 12, self.chance.randint(-300, 300)])
            return word(number), lambda numbers: number
        return (K, M, N)[at] >> shift, lambda numbers: numbers[at] >> shift

    def one_more(self, made, value):
        kind = self.chance.randrange(4)
        if kind == 0:
            return ~made, lambda numbers: ~value(numbers)
        if kind == 1:
            shift = self.chance.choice([1, 2, 3])
            return made << shift, lambda numbers: value(numbers) << shift
        factor = self.chance.randint(-7, 7)
        return factor * made, lambda numbers: factor * value(numbers)

    def make(self, depth):
        if depth == 0:
            return self.leaf()
        made, value = self.make(depth - 1)
        if self.chance.random() < 0.25:
            return self.one_more(made, value)
        other, value_beside = self.make(depth - 1)
        act = self.chance.choice([*BITS.values(), *SUMS.values()])
        try:
            return act(made, other), lambda numbers: act(value(numbers), value_beside(numbers))
        except TooMany:
            return made, value

    def test_values(self):
        for _ in range(120):
            made, value = self.make(self.chance.randint(1, 3))
            for size in (5, 5, 5, 5, 12, 12, 40, 40, 332):
                numbers = [self.chance.randrange(2 ** size) for _ in range(3)]
                pairs = tuple(zip(("k", "m", "n"), numbers))
                self.assertEqual(made.at(pairs), value(numbers), pairs)

    def test_least_rules(self):
        seen = set()
        for _ in range(35):
            made, value = self.make(self.chance.randint(1, 2))
            size = len(made.names)
            if not 1 <= size <= 2 or made.rank > 6:
                continue
            seen.add(made.rank)
            places = [("k", "m", "n").index(name) for name in made.names]

            def function(*numbers):
                given = [0, 0, 0]
                for place, number in zip(places, numbers):
                    given[place] = number
                return value(given)
            points = all_points(size, 5 - 2 * size) + [
                tuple(self.chance.randrange(2 ** 12) for _ in range(size)) for _ in range(60)]
            basis, equations, firsts = least_rule(function, size, points)
            self.assertEqual(told(made), (made.names, len(basis), basis, equations, firsts))
        self.assertGreater(len(seen), 3)


def row(*numbers):
    return tuple((number, 1) for number in numbers)


class RulesByHand(unittest.TestCase):
    def check(self, made, names, basis, equations, firsts):
        self.assertEqual(told(made), (names, len(basis), basis, equations, firsts))

    def test_a_variable_shifted_to_the_left(self):
        plain = ((row(2, 0), row(0, 1)), (row(2, 1), row(-2, 3)))
        for shift in range(9):
            self.check(M << shift, ("m",), ((0, (0,)), (1, (1,))), plain, (0, 1 << shift))

    def test_a_variable_shifted_to_the_right(self):
        # f = m // 2, then x, then 2 x + 1.
        self.check(M >> 1, ("m",), ((0, (0,)), (1, (0,)), (2, (2,))),
                   ((row(0, 1, 0), row(0, 1, 0)), (row(0, 2, 0), row(0, 0, 1)), (row(0, 2, 1), row(0, -2, 3))),
                   (0, 0, 1))
        self.assertEqual([(M >> shift).rank for shift in range(5)], [2, 3, 4, 5, 6])
        self.assertEqual(told(M >> 0), told(M))
        self.assertEqual((M >> 3).basis, ((0, (0,)), (1, (0,)), (2, (0,)), (3, (0,)), (4, (8,))))

    def test_a_sum_with_factors(self):
        # f = m + 2 n: the parts are 2 f, 2 f + 2, 2 f + 1, 2 f + 3.
        half = ((1, 1), (1, 2))
        more = ((-1, 1), (3, 2))
        self.check(M + 2 * N, ("m", "n"), ((0, (0, 0)), (1, (0, 1))),
                   ((row(2, 0), row(0, 1), half, more), (row(2, 1), row(-2, 3), row(0, 2), row(-4, 4))), (0, 2))

    def test_and_of_two_variables(self):
        self.check(M & N, ("m", "n"), ((0, (0, 0)), (1, (1, 1))),
                   ((row(2, 0), row(2, 0), row(2, 0), row(0, 1)), (row(2, 1), row(2, 1), row(2, 1), row(-2, 3))),
                   (0, 1))

    def test_exclusive_or_of_two_variables(self):
        self.check(M ^ N, ("m", "n"), ((0, (0, 0)), (1, (0, 1))),
                   ((row(2, 0), row(0, 1), row(0, 1), row(2, 0)), (row(2, 1), row(-2, 3), row(-2, 3), row(2, 1))),
                   (0, 1))

    def test_or_of_two_variables(self):
        self.check(M | N, ("m", "n"), ((0, (0, 0)), (1, (0, 1))),
                   ((row(2, 0), row(0, 1), row(0, 1), row(0, 1)), (row(2, 1), row(-2, 3), row(-2, 3), row(-2, 3))),
                   (0, 1))

    def test_a_variable_and_an_integer(self):
        # f = m & 5, with the digits b at the lowest places of x: 4 b1, 4 b1 + 1, 4 b0.
        for made in (M & 5, 5 & M):
            self.check(made, ("m",), ((0, (0,)), (1, (0,)), (1, (1,)), (2, (0,))),
                       ((row(0, 1, 0, 0), row(0, 0, 1, 0)), (row(0, 0, 0, 1),) * 2, (row(0, -1, 1, 1),) * 2,
                        (row(0, 0, 0, 0), row(0, -4, 4, 0))), (0, 0, 1, 0))

    def test_a_variable_exclusive_or_an_integer(self):
        # f = m ^ 1: 2 x + 1 and 2 x.
        for made in (M ^ 1, 1 ^ M):
            self.check(made, ("m",), ((0, (0,)), (1, (0,)), (1, (1,))),
                       ((row(0, 1, 0), row(0, 0, 1)), (row(0, 1, 1), row(0, 3, -1)), (row(0, 0, 2), row(0, 2, 0))),
                       (1, 1, 0))

    def test_a_variable_or_an_integer(self):
        # f = m | 1: 2 x + 1 by both digits, then 4 x + 1.
        for made in (M | 1, 1 | M):
            self.check(made, ("m",), ((0, (0,)), (1, (0,)), (2, (0,))),
                       ((row(0, 1, 0),) * 2, (row(0, 0, 1), row(0, 4, -1)), (row(0, -2, 3), row(0, 6, -1))),
                       (1, 1, 1))

    def test_ranks(self):
        self.assertEqual([(M & (2 ** size - 1)).rank for size in range(1, 16)], list(range(2, 17)))
        self.assertEqual([(M & 2 ** size).rank for size in range(15)], list(range(2, 17)))
        self.assertEqual([((M << shift) & N).rank for shift in range(9)], list(range(2, 11)))


class OtherWays(unittest.TestCase):
    def check_same(self, words):
        for other in words[1:]:
            self.assertEqual(told(other), told(words[0]))
            self.assertIs(other == words[0], True)
            self.assertIs(other != words[0], False)
            self.assertIs(formula(other) == words[0], True)

    def test_tricks(self):
        self.check_same([M + N, (M ^ N) + 2 * (M & N), (M | N) + (M & N), 2 * (M | N) - (M ^ N), N + M])
        self.check_same([M | N, M + N - (M & N), ~(~M & ~N), (M ^ N) | (M & N), (M ^ N) ^ (M & N), N | M])
        self.check_same([M ^ N, (M | N) - (M & N), (M & ~N) + (N & ~M), ~M ^ ~N, N ^ M, (M | N) & ~(M & N)])
        self.check_same([M & N, ~(~M | ~N), M - (M & ~N), M & (M & N), (M + N) - (M | N), N & M])
        self.check_same([~M, -M - 1, -1 - M, M ^ -1, -(M + 1), -1 ^ M])
        self.check_same([-M, ~M + 1, ~(M - 1), 0 - M, -1 * M, M * -1])

    def test_shifts(self):
        self.check_same([M, (M >> 1) + (M >> 1) + (M & 1), 2 * (M >> 1) + (M & 1), (M >> 1 << 1) | (M & 1), M | M,
                         M & M, M & -1, M | 0, M ^ 0, (M | N) & M, M << 0, M >> 0, ~~M])
        self.check_same([16 * (M >> 4), (M >> 4) << 4, M & ~15, M - (M & 15), M & -16, (M | 15) - 15])
        self.check_same([M << 8, 16 * (16 * M), (M << 4) << 4, 8 * (M << 5)])
        self.check_same([(M >> 2) ^ (M >> 3), (M >> 3) ^ (M >> 2)])

    def test_lowest_digits(self):
        self.check_same([M & -M, M - (M & (M - 1)), M & ~(M - 1), (M ^ (M - 1)) - (M ^ (M - 1) ^ M) + (M & (M - 1)) - (
            M & (M - 1)) - ((M ^ (M - 1)) - (M ^ (M - 1) ^ M)) + (M & -M)])

    def test_integers(self):
        self.check_same([word(0), M ^ M, M & 0, M & ~M, 0 * N, M - M, (M & 6) & 9])
        self.check_same([word(-1), M | ~M, M ^ ~M, M | -1, ~word(0), ~(M - M)])
        self.check_same([word(4), word(5) & -2, 12 & word(6), (M & 1) * 0 + 4, word(1) << 2])

    def test_names_that_drop_out(self):
        self.assertEqual(((M | N) & M).names, ("m",))
        self.assertEqual(((M & N) | M).names, ("m",))
        self.assertEqual(((M ^ N) ^ M).names, ("n",))
        self.assertEqual((((M & 7) << 3) & 7).names, ())
        self.assertEqual(((N >> 4) & 0 | K).names, ("k",))
        self.assertEqual(((K ^ M) + (N ^ 3)).names, ("k", "m", "n"))

    def test_words_that_differ(self):
        words = [M, N, M & N, M | N, M ^ N, ~M, -M, M >> 1, M << 1, M & 1, M | 1, M ^ 1, word(0), word(1), word(-1),
                 M & -M, M + N, M - N, M & (N >> 4), (M >> 4) & N, M & ~N]
        for at, one in enumerate(words):
            for place, other in enumerate(words):
                self.assertIs(one == other, at == place)
                self.assertIs(one == formula(other), at == place)


class Wrong(unittest.TestCase):
    def test_integers_out_of_range(self):
        for act in BITS.values():
            for number in (10 ** 6, -10 ** 6):
                self.assertEqual(act(M & 1, number).of(m=1), act(1, number))
                self.assertEqual(act(number, M & 1).of(m=1), act(number, 1))
            for number in (10 ** 6 + 1, -10 ** 6 - 1, 10 ** 129, -10 ** 129):
                self.assertEqual(raised(self, InvalidNumber, act, M, number).number, number)
                self.assertEqual(raised(self, InvalidNumber, act, number, M).number, number)

    def test_shifts_out_of_range(self):
        for one in (M, M + N, word(3)):
            for shift in (-1, 9, 10 ** 129, -10 ** 129):
                self.assertEqual(raised(self, InvalidNumber, operator.lshift, one, shift).number, shift)
            for shift in (-1, 5, 8, 10 ** 129, -10 ** 129):
                self.assertEqual(raised(self, InvalidNumber, operator.rshift, one, shift).number, shift)

    def test_what_is_no_variable(self):
        for one in (M + 1, 2 * M, -M, ~M, M & N, M + N, word(0), word(3), M - M, M >> 1, M << 1, M & 1, M | 1):
            for shift in range(5):
                self.assertIs(raised(self, NotAVariable, operator.rshift, one, shift).value, one)

    def test_what_is_equal_to_a_variable(self):
        for one in (var("m"), M + 0, M | M, (M | N) & M, (M ^ N) ^ N, ~~M, 2 * (M >> 1) + (M & 1), N + M - N,
                    -1 * -M, M + N - (M & N) - (N & ~M)):
            for shift in range(5):
                self.assertEqual(told(one >> shift), told(M >> shift))
        self.assertEqual((var("abcdefgh") >> 2).of(abcdefgh=11), 2)

    def test_other_operands(self):
        for other in OTHERS:
            for act in [*BITS.values(), operator.lshift, operator.rshift]:
                for one in (M, word(3), M + N):
                    self.assertRaises(TypeError, act, one, other)
                    self.assertRaises(TypeError, act, other, one)

    def test_words_and_formulas_in_the_place_of_integers(self):
        for act in (operator.lshift, operator.rshift):
            for other in (M, word(2), formula(2), formula(M)):
                self.assertRaises(TypeError, act, M, other)
                self.assertRaises(TypeError, act, 2, other)
        for act in BITS.values():
            for other in (formula(2), formula(M)):
                self.assertRaises(TypeError, act, M, other)
                self.assertRaises(TypeError, act, other, M)
        for act in (operator.floordiv, operator.mod, operator.truediv):
            self.assertRaises(TypeError, act, M, 2)
            self.assertRaises(TypeError, act, 2, M)
        self.assertRaises(TypeError, operator.pos, M)

    def test_too_many_names(self):
        three = M & N | K
        for act in [*BITS.values(), *SUMS.values()]:
            raised(self, TooManyNames, act, three, P)
            raised(self, TooManyNames, act, P, three)
            raised(self, TooManyNames, act, M + N, K ^ P)
            # Names on which nothing hangs do not count.
            self.assertEqual(act(three, P - P + 1).names, ("k", "m", "n"))

    def test_a_rank_of_16_and_above_it(self):
        for act, number in ((operator.and_, 32767), (operator.and_, 16384)):
            self.assertEqual(act(M, number).rank, 16)
            self.assertEqual(act(number, M).rank, 16)
        for number in (65535, 32768, 2 ** 19, 10 ** 6, -10 ** 6):
            raised(self, TooMany, operator.and_, M, number)
            raised(self, TooMany, operator.and_, number, M)
        for act in (operator.or_, operator.xor):
            for number in (10 ** 6, -10 ** 6):
                raised(self, TooMany, act, M, number)
                raised(self, TooMany, act, number, M)
        self.assertEqual(((M << 5) & 3 * N).rank, 16)
        raised(self, TooMany, operator.and_, M << 6, 3 * N)
        raised(self, TooMany, operator.and_, M << 8, N + K)
        self.assertEqual((((M << 8) & N) + ((N << 6) & K)).rank, 16)
        raised(self, TooMany, operator.add, (M << 8) & N, (N << 7) & K)
        raised(self, TooMany, operator.sub, (M << 8) & N, (N << 7) & K)

    def test_a_complement_of_rank_17(self):
        one = ((M << 8) & N) + ((N << 6) & K)
        self.assertEqual((-one).rank, 16)
        self.assertEqual((16 * one).rank, 16)
        self.assertEqual((one << 8).rank, 16)
        self.assertEqual((~one).rank, 16)
        lowest = M & 2 ** 14
        self.assertEqual((lowest.rank, (lowest + 1).rank, (~lowest).rank), (16, 16, 16))

    def test_very_many_digits_that_are_kept_in_mind(self):
        great = 15 * ((M << 8) - M)
        raised(self, TooMany, operator.and_, great, 15 * ((N << 8) - N))
        raised(self, TooMany, operator.xor, 16 * (M << 8), 15 * ((N << 8) - N))
        raised(self, TooMany, operator.or_, great, N)

    def test_names_are_looked_at_before_ranks(self):
        raised(self, TooManyNames, operator.and_, (M << 8) + N, K & P)
        raised(self, TooManyNames, operator.and_, (M & 4095) + N, (K & 4095) + P)


class NothingChanges(unittest.TestCase):
    def test_words(self):
        one, other, shifted = M & ~N, (K << 3) ^ 5, M >> 2
        before = told(one), told(other), told(shifted)
        results = []
        for _ in range(2):
            results.append([told(act(one, other)) for act in [*BITS.values(), *SUMS.values()]] + [
                told(~one), told(-other), told(one << 2), told(3 * other), told(one * other), told(shifted | one),
                repr(one), bool(other), one == other])
            raised(self, InvalidNumber, operator.and_, one, 10 ** 7)
            raised(self, NotAVariable, operator.rshift, one, 1)
            raised(self, TooManyNames, operator.or_, one ^ other, P)
            raised(self, TooMany, operator.and_, shifted, 10 ** 6)
        self.assertEqual(results[0], results[1])
        self.assertEqual((told(one), told(other), told(shifted)), before)

    def test_in_place_signs_make_new_words(self):
        made = kept = M & N
        made |= 4
        made ^= N
        made &= ~M
        made <<= 1
        self.assertEqual(kept, M & N)
        self.assertEqual(made, ((((M & N) | 4) ^ N) & ~M) << 1)
        moved = one = var("m")
        moved >>= 1
        self.assertEqual((one, moved), (M, M >> 1))


class Formulas(unittest.TestCase):
    def test_products_and_sums_with_formulas(self):
        made = (M & N) * (M | N) + (M & ~N) * (N & ~M)
        self.assertIs(type(made), Formula)
        self.assertEqual(made, M * N)
        self.assertEqual(told(made), told(M * N))
        self.assertEqual(told((M ^ N) ** 2), told((M - N) ** 2 + 4 * ((M & ~N) * (N & ~M))))

    def test_repr_and_truth(self):
        self.assertEqual([repr(made) for made in (M & N, M ^ 1, M & ~M, M & 32767)],
                         ["Word(2)", "Word(3)", "Word(0)", "Word(16)"])
        self.assertEqual([bool(made) for made in (M & N, M & ~M, M ^ M, M | -1, M & 1)],
                         [True, False, False, True, True])


if __name__ == "__main__":
    unittest.main()

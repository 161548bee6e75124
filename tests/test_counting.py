"""`ones`, `length`, `raised`, `one_if`: values, least rules, sums and products of them, and wrong arguments."""

import operator
import random
import unittest

from bitcounts.conditions import Test, always
from bitcounts.counting import length, one_if, ones, raised as power
from bitcounts.errors import InvalidNumber, NotATest, NotAWord, TooMany, TooManyNames
from bitcounts.formulas import Formula
from bitcounts.words import formula, rests, same, var, word
from tests.brute import all_points, least_rule
from tests.support import Other, raised, told

M, N, K, P = var("m"), var("n"), var("k"), var("p")
GREATEST = 10 ** 100
OTHERS = [True, False, None, "m", "", (), (1,), [1], {"m": 1}, b"m", Other(), Other]


def plain_ones(number):
    return bin(abs(number)).count("1")


def plain_length(number):
    return abs(number).bit_length()


def power_of(base):
    return lambda number: base ** plain_ones(number)


COUNTS = [(ones, plain_ones), (length, plain_length)] + [
    (lambda u, base=base: power(base, u), power_of(base)) for base in range(-4, 5)]
# Words with what they say of m and n.
SOME = [
    (M, lambda m, n: m), (N << 3, lambda m, n: n << 3), (-M, lambda m, n: -m), (~M, lambda m, n: ~m),
    (M + N, lambda m, n: m + n), (M - N, lambda m, n: m - n), (M & N, lambda m, n: m & n),
    (M ^ N, lambda m, n: m ^ n), (M | 4, lambda m, n: m | 4), (M & -M, lambda m, n: m & -m),
    (M ^ M >> 1, lambda m, n: m ^ m >> 1), (-(M & N) - 1, lambda m, n: -(m & n) - 1), (M - 3, lambda m, n: m - 3),
    ((M >> 4) + 1, lambda m, n: (m >> 4) + 1), (3 * M, lambda m, n: 3 * m), (M >> 2, lambda m, n: m >> 2),
    (N - 4 * M, lambda m, n: n - 4 * m), (16 * (M << 8) + 5, lambda m, n: 4096 * m + 5),
    (-(M << 4) - 8, lambda m, n: -16 * m - 8),
]


class Values(unittest.TestCase):
    def check(self, made, function):
        self.assertIs(type(made), Formula)
        chance = random.Random(2)
        great = [(chance.randrange(GREATEST), chance.randrange(GREATEST)) for _ in range(4)]
        edges = [(0, 0), (0, GREATEST), (GREATEST, 0), (GREATEST, GREATEST), (2 ** 332, 2 ** 332 - 1)]
        for m, n in [*all_points(2, 4), *great, *edges]:
            self.assertEqual(made.of(m=m, n=n), function(m, n), (m, n))
        self.assertIs(type(made.of(m=3, n=4)), int)

    def test_all_counts_of_words(self):
        done = 0
        for one, value in SOME:
            for act, plain in COUNTS:
                try:
                    made = act(one)
                except TooMany:
                    continue
                done += 1
                self.check(made, lambda m, n: plain(value(m, n)))
        self.assertGreater(done, 150)

    def test_integers(self):
        for number in (0, 1, -1, 2, 7, -7, 8, -8, 1000, 10 ** 6, -10 ** 6):
            for act, plain in COUNTS:
                for one in (number, word(number)):
                    made = act(one)
                    self.assertIs(type(made), Formula)
                    self.assertEqual((made.names, made.of()), ((), plain(number)))
                    self.assertEqual(made, formula(plain(number)))

    def test_small_numbers_below_zero(self):
        low = M - 6
        self.assertEqual([ones(low).of(m=m) for m in range(12)], [2, 2, 1, 2, 1, 1, 0, 1, 1, 2, 1, 2])
        self.assertEqual([length(low).of(m=m) for m in range(12)], [3, 3, 3, 2, 2, 1, 0, 1, 2, 2, 3, 3])
        self.assertEqual([power(3, low).of(m=m) for m in range(8)], [9, 9, 3, 9, 3, 3, 1, 3])
        self.assertEqual([power(0, low).of(m=m) for m in range(8)], [0, 0, 0, 0, 0, 0, 1, 0])
        self.assertEqual([power(-1, low).of(m=m) for m in range(8)], [1, 1, -1, 1, -1, -1, 1, -1])
        self.assertEqual([power(1, low).of(m=m) for m in range(3)], [1, 1, 1])

    def test_the_bases_0_and_1(self):
        for one, value in SOME:
            self.assertEqual(told(power(1, one)), told(formula(1)))
        self.assertEqual(power(0, M), one_if(same(M, 0)))
        self.assertEqual(power(0, M - N), one_if(same(M, N)))
        self.assertEqual(power(0, M + 1), formula(0))
        self.assertEqual(power(0, 0), formula(1))
        self.assertEqual(power(0, (M << 3) + 1), formula(0))
        self.assertEqual(power(0, 16 * (M << 8)), power(0, M))
        self.assertEqual(power(0, (M >> 3)), one_if(M < 8))

    def test_one_if(self):
        for test, holds in ((M < N, lambda m, n: m < n), (M >= 5, lambda m, n: m >= 5), (always(), lambda m, n: True),
                            (~always(), lambda m, n: False), (rests(M + N, 3, 2), lambda m, n: (m + n) % 3 == 2),
                            (same(M & N, 0), lambda m, n: m & n == 0), (same(M, 2 * N), lambda m, n: m == 2 * n)):
            self.check(one_if(test), lambda m, n: int(holds(m, n)))
        self.assertEqual(one_if(always()), formula(1))
        self.assertEqual(told(one_if(M < 0)), told(formula(0)))

    def test_by_name_of_the_arguments(self):
        self.assertEqual(ones(u=M), ones(M))
        self.assertEqual(length(u=M), length(M))
        self.assertEqual(power(u=M, base=-2), power(-2, M))
        self.assertEqual(one_if(t=M < N), one_if(M < N))

    def test_three_names(self):
        for act, plain in ((ones, plain_ones), (length, plain_length), (lambda u: power(-3, u), power_of(-3))):
            one = K + M + N
            made = act(one)
            for k, m, n in all_points(3, 3):
                self.assertEqual(made.of(k=k, m=m, n=n), plain(k + m + n))


def row(*numbers):
    return tuple((number, 1) for number in numbers)


class Rules(unittest.TestCase):
    def check(self, made, names, basis, equations, firsts):
        self.assertEqual(told(made), (names, len(basis), basis, equations, firsts))

    def test_by_hand(self):
        # ones: itself, and itself and 1.
        self.check(ones(M), ("m",), ((0, (0,)), (1, (1,))), ((row(1, 0), row(0, 1)), (row(0, 1), row(-1, 2))), (0, 1))
        for base in (-4, -3, -2, -1, 2, 3, 4):
            self.check(power(base, M), ("m",), ((0, (0,)),), ((row(1), row(base)),), (1,))
            self.check(power(base, -M), ("m",), ((0, (0,)),), ((row(1), row(base)),), (1,))
        self.check(power(0, M), ("m",), ((0, (0,)),), ((row(1), row(0)),), (1,))
        # length: f, then f and 1 but at 0, then f and 1.
        self.assertEqual((length(M).rank, length(M).basis), (3, ((0, (0,)), (1, (0,)), (1, (1,)))))
        self.assertEqual(length(M).equations[0], (row(0, 1, 0), row(0, 0, 1)))
        # One for each of both classes.
        self.check(one_if(M < N), ("m", "n"), ((0, (0, 0)), (1, (0, 1))),
                   ((row(1, 0), row(0, 1), row(1, 0), row(1, 0)), (row(0, 1), row(0, 1), row(1, 0), row(0, 1))), (0, 1))
        self.check(one_if(rests(M, 2, 1)), ("m",), ((0, (0,)), (1, (1,))),
                   ((row(0, 0), row(0, 1)), (row(0, 1), row(0, 1))), (0, 1))

    def test_by_brute(self):
        chance = random.Random(9)
        for one, value in SOME[:13]:
            for act, plain in COUNTS[:4] + COUNTS[-2:]:
                try:
                    made = act(one)
                except TooMany:
                    continue
                size = len(made.names)
                if made.rank > 5 or size == 0:
                    continue

                def function(*numbers):
                    given = {"m": 0, "n": 0, **dict(zip(made.names, numbers))}
                    return plain(value(given["m"], given["n"]))
                points = all_points(size, 5 - 2 * size) + [
                    tuple(chance.randrange(2 ** 9) for _ in range(size)) for _ in range(30)]
                basis, equations, firsts = least_rule(function, size, points)
                self.assertEqual(told(made), (made.names, len(basis), basis, equations, firsts))

    def test_ranks(self):
        self.assertEqual([ones(factor * M).rank for factor in range(1, 16, 2)], list(range(2, 17, 2)))
        self.assertEqual([one_if(rests(M, modulus, 0)).rank for modulus in (3, 5, 7, 9, 11)], [3, 5, 7, 9, 11])
        self.assertEqual([ones((M << shift) & N).rank for shift in range(9)], list(range(2, 11)))


class OtherWays(unittest.TestCase):
    def check_same(self, formulas):
        for other in formulas[1:]:
            self.assertEqual(told(other), told(formulas[0]))
            self.assertIs(other == formulas[0], True)

    def test_ones(self):
        carries = ones(M) + ones(N) - ones(M + N)
        self.assertEqual([carries.of(m=7, n=1), carries.of(m=5, n=5), carries.of(m=2 ** 300 - 1, n=1)], [3, 2, 300])
        self.check_same([ones(M) + ones(N), ones(M ^ N) + 2 * ones(M & N), ones(M | N) + ones(M & N)])
        self.check_same([ones(M), ones(-M), ones(M << 8), ones(16 * (M << 8)), ones(M | M), ones(M >> 1) + ones(M & 1),
                         ones(-16 * M)])
        self.check_same([ones(M ^ M >> 1), ones(M) + ones(M >> 1) - 2 * ones(M & M >> 1)])
        self.check_same([ones(~M), ones(M + 1), ones(-1 - M)])
        self.check_same([ones(M - 1), ones(1 - M)])
        self.check_same([ones(M & -M), one_if(M > 0), 1 - power(0, M)])
        self.check_same([M - ones(M), sum([formula(M >> 1)]) + (M >> 1) - ones(M >> 1) + (M & 1) - ones(M & 1)])

    def test_lengths(self):
        self.check_same([length(M), length(-M), length(M << 3) - 3 * one_if(M > 0), length(M >> 1) + one_if(M > 0)])
        self.check_same([length(M | N), length(M) * one_if(M >= N) + length(N) * one_if(M < N)])
        self.check_same([length(~M), length(M + 1)])
        self.check_same([length(M ^ M >> 1), length(M)])

    def test_powers(self):
        self.check_same([power(4, M), power(2, M) ** 2, power(-2, M) * power(-2, M)])
        self.check_same([power(-4, M), power(-1, M) * power(4, M)])
        self.check_same([power(2, M) * power(2, N), power(2, M ^ N) * power(4, M & N)])
        self.check_same([power(1, M - N), formula(1)])
        self.check_same([power(-1, M ^ N), power(-1, M) * power(-1, N)])
        self.check_same([power(3, -N), power(3, N)])

    def test_tests(self):
        self.check_same([one_if(M < N) + one_if(N < M) + one_if(same(M, N)), formula(1)])
        self.check_same([one_if((M < N) & (M < 5)), one_if(M < N) * one_if(M < 5)])
        self.check_same([one_if(~(M < N)), 1 - one_if(M < N)])
        self.check_same([one_if(M < N) ** 3, one_if(M < N)])
        self.check_same([formula(M & 1), one_if(rests(M, 2, 1))])
        self.check_same([(M - N) * one_if(M >= N) + (N - M) * one_if(M < N),
                         (M - N) * (1 - 2 * one_if(M < N))])

    def test_with_words_and_integers_on_either_side(self):
        for act in (operator.add, operator.sub, operator.mul):
            for m in range(9):
                for n in range(5):
                    self.assertEqual(act(ones(M), N - 1).of(m=m, n=n), act(plain_ones(m), n - 1))
                    self.assertEqual(act(N - 1, ones(M)).of(m=m, n=n), act(n - 1, plain_ones(m)))
            self.assertEqual(act(ones(M), 10 ** 9).of(m=3), act(2, 10 ** 9))
            self.assertEqual(act(10 ** 9, ones(M)).of(m=3), act(10 ** 9, 2))
        self.assertIs(type(ones(M) + N), Formula)
        self.assertEqual((ones(M) ** 2).of(m=7), 9)
        self.assertEqual(ones(M) == N, False)
        self.assertEqual(one_if(rests(M, 2, 1)) == (M & 1), True)
        self.assertEqual((M & 1) == one_if(rests(M, 2, 1)), True)
        self.assertEqual([repr(ones(M)), bool(ones(M)), bool(ones(M) - ones(-M))], ["Formula(2)", True, False])


class Wrong(unittest.TestCase):
    def test_what_is_no_word(self):
        for other in [*OTHERS, formula(M), formula(3), M < N, ones(M)]:
            for act in (ones, length, lambda u: power(2, u)):
                self.assertIs(raised(self, NotAWord, act, other).value, other)

    def test_integers_out_of_range(self):
        for number in (10 ** 6 + 1, -10 ** 6 - 1, 10 ** 129, -10 ** 129):
            for act in (ones, length, lambda u: power(2, u)):
                self.assertEqual(raised(self, InvalidNumber, act, number).number, number)

    def test_wrong_bases(self):
        for base in (-5, 5, 10 ** 129, -10 ** 129, True, False, None, "2", (2,), M, word(2), formula(2)):
            for one in (M, 7):
                self.assertIs(raised(self, InvalidNumber, power, base, one).number, base)

    def test_the_order_of_errors(self):
        self.assertEqual(raised(self, InvalidNumber, power, 5, None).number, 5)
        self.assertEqual(raised(self, InvalidNumber, power, 5, 10 ** 7).number, 5)
        self.assertEqual(raised(self, NotAWord, power, 0, True).value, True)
        self.assertEqual(raised(self, InvalidNumber, power, 1, 10 ** 7).number, 10 ** 7)
        self.assertEqual(raised(self, InvalidNumber, power, -5, 11 * M).number, -5)

    def test_what_is_no_test(self):
        for other in [*OTHERS, 0, 1, M, word(1), formula(1), Test]:
            self.assertIs(raised(self, NotATest, one_if, other).value, other)

    def test_a_rank_of_16_and_above_it(self):
        self.assertEqual((ones(15 * M).rank, ones(-15 * M).rank), (16, 16))
        for act in (ones, length):
            for one in (15 * M + 4 * M, M + 1000, M + 10 ** 6, 3 * M - 5 * N, 15 * ((M << 8) - M), 15 * M - 16 * N):
                raised(self, TooMany, act, one)
        for base in (-4, -2, -1, 2, 3):
            raised(self, TooMany, power, base, 15 * ((M << 8) - M))
            raised(self, TooMany, power, base, 3 * M - 5 * N)
        raised(self, TooMany, power, 0, 16 * M - 15 * N + K)
        raised(self, TooMany, power, 0, M - 10 ** 6)
        self.assertEqual(power(0, 3 * M - 5 * N).rank, 7)
        self.assertEqual(one_if(rests(M, 3, 0) & rests(M, 5, 0)).rank, 15)
        self.assertEqual(one_if(same(15 * M, N)).rank, 15)
        self.assertEqual(one_if(same(16 * M, N)).rank, 16)
        raised(self, TooMany, one_if, same((M << 4) + M, N))
        raised(self, TooMany, one_if, rests(M, 3, 0) & rests(M, 7, 0))
        raised(self, TooMany, one_if, M < 10 ** 6)
        raised(self, TooMany, one_if, (M << 8) - M < N)

    def test_words_that_need_many_states(self):
        raised(self, TooMany, length, (((M >> 2) & N) << 8 ^ N) | ~(1 | N))
        raised(self, TooMany, length, (-12 * K) ^ ((N >> 3) & M))
        raised(self, TooMany, ones, (N << 8) + ((N >> 3) ^ M))
        self.assertEqual(ones((16 * (M << 8)) & N).of(m=5, n=2 ** 14 + 3), 1)

    def test_limits_of_sums_and_products(self):
        raised(self, TooManyNames, operator.add, ones(M + N + K), P)
        raised(self, TooManyNames, operator.mul, ones(M) * N, one_if(K < P))
        raised(self, TooMany, operator.mul, ones(15 * M), ones(7 * N))
        raised(self, TooMany, operator.add, ones(15 * M), N * ones(N))


class NothingChanges(unittest.TestCase):
    def test_words_and_tests(self):
        one, test = M - (N & 5), (M < N) | rests(M, 3, 1)
        before = told(one), (test.names, test.classes, test.least)
        results = []
        for _ in range(2):
            results.append([told(act(one & 6)) for act, _ in COUNTS] + [told(one_if(test))])
            raised(self, InvalidNumber, power, 9, one)
            raised(self, TooMany, ones, 15 * ((M << 8) - M))
        self.assertEqual(results[0], results[1])
        self.assertEqual((told(one), (test.names, test.classes, test.least)), before)


if __name__ == "__main__":
    unittest.main()

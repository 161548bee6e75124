"""Words and formulas are kept as sums and worked out late: names that drop out, limits, and deep or long sums."""

import random
import unittest

from bitcounts.conditions import always
from bitcounts.counting import length, one_if, ones, raised as power
from bitcounts.errors import LimitError, TooMany, TooManyNames, WrongNames
from bitcounts.formulas import Formula
from bitcounts.relations import parting
from bitcounts.totals import total
from bitcounts.words import formula, rests, same, var, word
from tests.drawn import drawn_formula, drawn_word
from tests.support import raised, told

M, N, K, P, Q = (var(name) for name in "mnkpq")


class NamesThatDropOut(unittest.TestCase):
    def test_in_words(self):
        one = (M ^ P) + 2 * (M & P) - P
        self.assertEqual((one.names, one.of(m=9), one), (("m",), 9, M))
        self.assertEqual((one & (K + N)).names, ("k", "m", "n"))
        self.assertEqual(one + K + N, M + K + N)
        self.assertEqual(one < K + N, M < K + N)
        self.assertEqual(same(one, K + N), same(M, K + N))
        self.assertEqual(one >> 2, M >> 2)
        self.assertEqual(one * K * N, M * K * N)
        raised(self, TooManyNames, lambda: one + K + N + Q)
        raised(self, TooManyNames, lambda: one & K + N + Q)
        raised(self, TooManyNames, lambda: one < K + N + Q)
        self.assertEqual(raised(self, WrongNames, one.of, p=3).name, "m")
        self.assertEqual(((one - M).of(), (one - M).names, bool(one - M)), (0, (), False))

    def test_in_what_is_measured(self):
        one = ones(1 + (M & 1))
        self.assertEqual((one.names, one.of(), one.of(m=3), one), ((), 1, 1, formula(1)))
        self.assertEqual(one + N, N + formula(1))
        self.assertEqual((one * M).of(m=4), 4)
        self.assertEqual((one + ones(N) + K * P).of(n=3, k=2, p=5), 13)
        beside = length(4 + (N & 3))
        self.assertEqual((beside.names, beside.of()), ((), 3))
        self.assertEqual((beside * K * P * M).names, ("k", "m", "p"))
        self.assertEqual(one_if(rests(2 * M, 2, 0)), formula(1))
        self.assertEqual(power(-1, M) * power(-1, M), formula(1))
        self.assertEqual((power(-1, M) * power(-1, M)).of(), 1)

    def test_in_sums_and_products(self):
        one = ones(M) + ones(N) - ones(M + N) - ones(M)
        self.assertEqual(one.names, ("m", "n"))
        self.assertEqual((one + ones(M + N)).names, ("n",))
        self.assertEqual((one + ones(M + N)).of(n=7), 3)
        self.assertEqual(raised(self, WrongNames, one.of, m=1).name, "n")
        zero = ones(M) + ones(N) - ones(M ^ N) - 2 * ones(M & N)
        self.assertEqual((zero.names, zero.rank, zero.of(), bool(zero)), ((), 0, 0, False))
        self.assertEqual((zero + K * P * Q).names, ("k", "p", "q"))
        self.assertEqual((zero * K).of(), 0)
        self.assertEqual(zero + 7, formula(7))
        raised(self, TooManyNames, lambda: ones(M) + ones(N) + K * P)
        self.assertEqual(parting(zero, K), (("k", 1),))

    def test_in_totals(self):
        one = (M ^ P) + 2 * (M & P) - P
        self.assertEqual(total(one, "m", N), total(M, "m", N))
        self.assertEqual(total(ones(M) * 0 + N, "m", 3), 3 * formula(N))


class Limits(unittest.TestCase):
    def test_no_rank_above_16_comes_out(self):
        chance = random.Random(41)
        done = 0
        for _ in range(120):
            one, _ = drawn_formula(chance)
            other, _ = drawn_formula(chance)
            for act in (lambda: one + other, lambda: one - other, lambda: one * other, lambda: one + other + 7):
                try:
                    made = act()
                except LimitError:
                    continue
                done += 1
                self.assertLessEqual(made.rank, 16)
        self.assertGreater(done, 200)

    def test_sums_with_an_integer(self):
        for number in [3 ** power_of for power_of in range(13)]:
            for act in (ones, length, lambda u: power(2, u), lambda u: power(-1, u), lambda u: power(0, u)):
                try:
                    self.assertLessEqual(act(M + number).rank, 16)
                except TooMany:
                    self.assertGreater(number, 20)

    def test_sums_whose_words_alone_would_be_too_great(self):
        one, other = M & 0b1011011, N & 0b1101101
        sign = power(-1, M + N)
        beside, against = formula(-one) * sign * sign, formula(-other) * sign * sign
        for first in (formula(one) + beside, formula(one) + 2 * beside + one):
            for second in (formula(other) + against, formula(other) + 3 * against + 2 * other):
                self.assertEqual(first + second, formula(0))
        self.assertEqual(formula(one) + formula(other) + beside + against + ones(M), ones(M))

    def test_just_at_the_limit(self):
        great = M & 2 ** 14
        self.assertEqual(great.rank, 16)
        for made in (great + 1, ~great, -great, great << 2, 3 * great, great + great):
            self.assertEqual(made.rank, 16)
        raised(self, TooMany, lambda: great + N)
        raised(self, TooMany, lambda: great + M)
        self.assertEqual(great + 0 * N, great)
        self.assertEqual((formula(great) * 5 + 10 ** 40).rank, 16)
        raised(self, TooMany, lambda: formula(great) + ones(N))
        bits = one_if(same(M & 2 ** 13, 0))
        self.assertEqual(bits.rank, 15)
        self.assertEqual((bits + bits - 3).rank, 15)


class LongAndDeep(unittest.TestCase):
    def test_words(self):
        one = M
        for _ in range(60):
            one = (one & N) | (M + 1)
        self.assertEqual(one, (((M & N) | M + 1) & N) | M + 1)
        for m, n in ((0, 0), (5, 9), (77, 1000), (10 ** 50, 3 ** 90)):
            self.assertEqual(one.of(m=m, n=n), (((m & n) | m + 1) & n) | m + 1)
        one, plain = M, lambda m, n: m
        for at in range(30):
            one, plain = (one ^ N) + at, lambda m, n, plain=plain, at=at: (plain(m, n) ^ n) + at
            if one.rank > 12:
                break
        self.assertEqual(one.of(m=12345, n=678), plain(12345, 678))

    def test_sums_of_many(self):
        made = formula(0)
        for number in range(40):
            made = made + ones(M) * number + number
        self.assertEqual(made, 780 * ones(M) + 780)
        made = formula(0)
        for number in range(1, 17):
            made = made + length(number * M) - length(number * M)
        self.assertEqual((made, made.names), (formula(0), ()))

    def test_products_of_many(self):
        made = formula(1)
        for _ in range(50):
            made = made * power(-1, M)
        self.assertEqual(made, formula(1))
        made = made * power(-1, M) * power(-1, N)
        for _ in range(40):
            made = made * power(-1, N) * power(-1, N) + formula(0)
        self.assertEqual((made.of(m=7, n=3), made.of(m=3, n=1)), (-1, -1))
        one = one_if(M < N)
        for _ in range(20):
            one = one * one_if(M < N)
        self.assertEqual(one, one_if(M < N))

    def test_equal_ways(self):
        chance = random.Random(42)
        for _ in range(60):
            one, _ = drawn_word(chance)
            other, _ = drawn_word(chance)
            try:
                ways = [one + other - other, (one - other) + other, 2 * one - one, ~~one, -(-one), word(0) + one,
                        (one << 1) - one]
            except LimitError:
                continue
            for way in ways:
                self.assertEqual(way, one)
                self.assertEqual(told(way), told(one))
                self.assertFalse(way != one)

    def test_unlike_ones(self):
        chance = random.Random(43)
        for _ in range(60):
            (one, first), (other, second) = drawn_formula(chance), drawn_formula(chance)
            values = [first(m, n) == second(m, n) for m in range(12) for n in range(12)]
            if not all(values):
                self.assertNotEqual(one, other)
            self.assertEqual(one == other, told(one) == told(other))
            self.assertEqual(bool(one), any(first(m, n) for m in range(12) for n in range(12)))
        self.assertEqual(M & 2 ** 13, M & 2 ** 13)
        self.assertNotEqual(M & 2 ** 13, word(0))
        self.assertTrue(M & 2 ** 13)
        self.assertNotEqual(formula(M & 1023), M)

    def test_kinds(self):
        self.assertIs(type(formula(M) + M), Formula)
        self.assertIs(type(M + formula(M)), Formula)
        self.assertEqual(one_if(always()) + 0, formula(1))


if __name__ == "__main__":
    unittest.main()

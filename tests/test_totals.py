"""`total` and `count`: values, closed forms, equal results, and errors in their order."""

import random
import unittest

from bitcounts.conditions import Test, always
from bitcounts.counting import length, one_if, ones, raised as power
from bitcounts.errors import (
    InvalidName, InvalidNumber, NotAFormula, NotATest, NotAWord, TooMany, TooManyClasses, TooManyNames, WrongNames,
)
from bitcounts.formulas import Formula
from bitcounts.totals import count, total
from bitcounts.words import formula, rests, same, var, word
from tests.support import Other, raised, told

M, N, K, P = var("m"), var("n"), var("k"), var("p")
GREATEST = 10 ** 100
OTHERS = [None, "m", "", (), (1,), [1], {"m": 1}, b"m", True, False, Other(), Other]

# Ends of ranges, with what they say of n and p.
BOUNDS = [
    (N, lambda n, p: n), (N + 1, lambda n, p: n + 1), (N - 3, lambda n, p: n - 3), (2 * N, lambda n, p: 2 * n),
    (word(-1), lambda n, p: -1), (word(0), lambda n, p: 0), (1, lambda n, p: 1), (13, lambda n, p: 13),
    (N & P, lambda n, p: n & p), (N | 3, lambda n, p: n | 3), (N ^ 5, lambda n, p: n ^ 5), (N + P, lambda n, p: n + p),
    (-N, lambda n, p: -n), (3 - N, lambda n, p: 3 - n), (N >> 1, lambda n, p: n >> 1), (N - P, lambda n, p: n - p),
]
FORMULAS = [
    (1, lambda m, n: 1), (M, lambda m, n: m), (formula(M), lambda m, n: m), (N, lambda m, n: n), (-3, lambda m, n: -3),
    (M & N, lambda m, n: m & n), (M - N, lambda m, n: m - n), (ones(M), lambda m, n: bin(m).count("1")),
    (M * M, lambda m, n: m * m), (length(M), lambda m, n: m.bit_length()), (0, lambda m, n: 0),
    (power(-1, M), lambda m, n: (-1) ** bin(m).count("1")), (ones(M) * N, lambda m, n: bin(m).count("1") * n),
    (GREATEST * formula(M), lambda m, n: GREATEST * m),
]
TESTS = [
    (always(), lambda m, n: True), (~always(), lambda m, n: False), (M < N, lambda m, n: m < n),
    (rests(M, 3, 1), lambda m, n: m % 3 == 1), (same(M & N, 0), lambda m, n: m & n == 0),
    (same(M, 2 * N), lambda m, n: m == 2 * n), (N > 4, lambda m, n: n > 4), (same(M & 3, 2), lambda m, n: m & 3 == 2),
]


class Values(unittest.TestCase):
    def check(self, made, function, bound):
        self.assertIs(type(made), Formula)
        self.assertNotIn("m", made.names)
        for n in range(9):
            for p in range(7):
                expected = sum(function(m, n) for m in range(max(0, bound(n, p))))
                self.assertEqual(made.of(n=n, p=p), expected, (n, p))

    def run_all(self, act, things, function):
        done = 0
        for thing, value in things:
            for bound, end in BOUNDS:
                try:
                    made = act(thing, "m", bound)
                except TooMany:
                    continue
                done += 1
                self.check(made, lambda m, n: function(value(m, n)), end)
        return done

    def test_totals(self):
        self.assertGreater(self.run_all(total, FORMULAS, int), 170)

    def test_counts(self):
        self.assertGreater(self.run_all(count, TESTS, int), 110)

    def test_drawn_sums(self):
        chance = random.Random(3)
        for _ in range(40):
            a, b, c, d = (chance.randint(-2, 3) for _ in range(4))
            made = total(a * M + b * N + c, "m", d * N + c)
            for n in range(12):
                self.assertEqual(made.of(n=n), sum(a * m + b * n + c for m in range(max(0, d * n + c))))

    def test_the_variable_is_not_among_the_names(self):
        self.assertEqual(total(N, "m", N), N * N)
        self.assertEqual(total(7, "m", P), 7 * formula(P))
        self.assertEqual(count(N > 4, "m", P), one_if(N > 4) * P)
        self.assertEqual(total(ones(N), "k", 5), 5 * ones(N))
        self.assertEqual(total(N, "m", -2), formula(0))
        self.assertEqual(total(N, "m", 0 * N).names, ())

    def test_great_numbers(self):
        squares = total(M * M, "m", N)
        gauss = total(M, "m", N)
        evens = count(rests(M, 2, 0), "m", N)
        digits = total(ones(M), "m", N)
        for n in (GREATEST, GREATEST - 1, 2 ** 332, 10 ** 60 + 7):
            self.assertEqual(gauss.of(n=n), n * (n - 1) // 2)
            self.assertEqual(squares.of(n=n), (n - 1) * n * (2 * n - 1) // 6)
            self.assertEqual(evens.of(n=n), (n + 1) // 2)
        self.assertEqual(digits.of(n=2 ** 300), 300 * 2 ** 299)
        # All numbers below 2 ** 200, and 2 ** 201 itself, have no digit of 2 ** 200.
        self.assertEqual(count(same(M & N, 0), "m", 2 * N + 1).of(n=2 ** 200), 2 ** 200 + 1)
        self.assertEqual(total(1, "m", 2 ** 13).of(), 2 ** 13)
        self.assertEqual(total(M, "m", 2 ** 7).of(), 2 ** 6 * (2 ** 7 - 1))
        raised(self, TooMany, total, 1, "m", 10 ** 6)

    def test_sums_of_sums(self):
        twice = total(total(M, "m", N), "n", P)
        halves = total(M >> 1, "m", N)
        for p in range(14):
            self.assertEqual(twice.of(p=p), sum(sum(range(n)) for n in range(p)))
            self.assertEqual(halves.of(n=p), sum(m >> 1 for m in range(p)))
        self.assertEqual(twice.of(p=GREATEST), GREATEST * (GREATEST - 1) * (GREATEST - 2) // 6)
        self.assertEqual(total(count(M < N, "m", P), "n", P), total(M, "m", P) + 0 * N)

    def test_equal_results(self):
        odd = count(same(M & (N - M), 0), "m", N + 1)
        self.assertEqual(odd, power(2, N))
        self.assertEqual(told(odd), told(power(2, N)))
        self.assertEqual(told(total(M + N, "m", N)), told(total((M ^ N) + 2 * (M & N), "m", (N ^ 0))))
        self.assertEqual(told(total(formula(M), "m", N)), told(total(M, "m", N)))
        self.assertEqual(count(M < N, "m", P), count(~(M >= N), "m", P + N - N))
        self.assertEqual(count(M < N, "m", P), total(one_if(M < N), "m", P))
        self.assertEqual(2 * total(M, "m", N), N * N - N)
        self.assertEqual(total(f=M, name="m", below=N), total(M, "m", N))
        self.assertEqual(count(below=N, name="m", t=M < 5), count(M < 5, "m", N))

    def test_other_variables_keep_their_names(self):
        made = total(M - K, "m", P)
        self.assertEqual(made.names, ("k", "p"))
        self.assertEqual(made.of(k=7, p=9), 36 - 63)
        self.assertEqual(count(M < K, "m", P).names, ("k", "p"))
        self.assertEqual(total(K * P, "m", 3).names, ("k", "p"))


class Errors(unittest.TestCase):
    def test_the_first_argument(self):
        for value in OTHERS + [M < N]:
            self.assertIs(raised(self, NotAFormula, total, value, 5, None).value, value)
        for value in OTHERS + [M, 3, formula(M)]:
            self.assertIs(raised(self, NotATest, count, value, 5, None).value, value)

    def test_the_name(self):
        for act, one in ((total, M), (count, M < N)):
            for value in (None, "", "M", "m1", "abcdefghi", 5, True, ("m",), ["m"], Other()):
                self.assertIs(raised(self, InvalidName, act, one, value, None).name, value)

    def test_the_end(self):
        for act, one in ((total, M), (count, M < N)):
            for value in OTHERS + [M < N, formula(N)]:
                self.assertIs(raised(self, NotAWord, act, one, "m", value).value, value)
            for number in (10 ** 6 + 1, -10 ** 6 - 1, 10 ** 30):
                self.assertEqual(raised(self, InvalidNumber, act, one, "m", number).number, number)

    def test_the_end_hangs_on_the_name(self):
        for act, one in ((total, M), (count, M < N)):
            for bound in (M, N + M, M & N, K + N + M):
                self.assertEqual(raised(self, WrongNames, act, one, "m", bound).name, "m")
            # Here it drops out.
            self.assertEqual(act(one, "m", M - M + N), act(one, "m", N))
            self.assertEqual(act(one, "m", (M ^ P) + 2 * (M & P) - M), act(one, "m", P))

    def test_wrong_names_come_before_the_limits(self):
        self.assertEqual(raised(self, WrongNames, total, K * N, "m", M + P).name, "m")

    def test_too_many_names(self):
        for act, one in ((total, K * N), (count, K < N)):
            raised(self, TooManyNames, act, one, "m", P)
            raised(self, TooManyNames, act, one, "a", M)
            self.assertEqual(act(one, "m", N).names, ("k", "n"))
        raised(self, TooManyNames, total, 0, "m", K + N + P)
        raised(self, TooManyNames, total, K * N * P, "m", 3)
        raised(self, TooManyNames, count, always(), "m", K + N + P)
        self.assertEqual(total(K * N * P, "k", 3), 3 * (N * P))

    def test_too_many_names_before_classes(self):
        great = 16 * (16 * (16 * N))
        for act, one in ((total, formula(0)), (count, ~always())):
            raised(self, TooManyClasses, act, one, "m", great + 2)
        raised(self, TooManyClasses, total, power(2, M) * ones(K) * ones(K), "m", great)
        raised(self, TooManyNames, total, K * P, "m", great)
        raised(self, TooManyNames, count, K < P, "m", great)

    def test_too_many(self):
        raised(self, TooMany, total, M, "m", 16 * N)
        raised(self, TooMany, count, M < 5, "m", 16 * N)
        raised(self, TooMany, total, 0, "m", 16 * N)
        raised(self, TooMany, count, rests(M, 11, 0) & rests(N, 3, 1), "m", N)
        raised(self, TooMany, total, ones(M) * ones(N) * M, "m", N + P)
        raised(self, TooMany, count, M < K + P, "m", 50)


if __name__ == "__main__":
    unittest.main()

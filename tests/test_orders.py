"""Comparisons of words, `same` and `rests`: where they hold, their classes, and wrong operands."""

import operator
import random
import unittest

from bitcounts.conditions import Test, always
from bitcounts.errors import InvalidNumber, NotAWord, TooManyClasses, TooManyNames
from bitcounts.words import formula, rests, same, var, word
from tests.brute import all_points, classes
from tests.support import Other, raised

M, N, K, P = var("m"), var("n"), var("k"), var("p")
GREATEST = 10 ** 100
ORDERS = {"<": operator.lt, "<=": operator.le, ">": operator.gt, ">=": operator.ge}
ALL = {**ORDERS, "same": same}
OTHERS = [True, False, None, "m", "", (), (1,), [1], {"m": 1}, b"m", Other(), Other]


def plain(name, one, other):
    return one == other if name == "same" else ORDERS[name](one, other)


class Where(unittest.TestCase):
    def check(self, one, other, values, near=()):
        """All tests of both words, whose values at m and n these are, at small numbers, great ones and these."""
        chance = random.Random(7)
        great = [(chance.randrange(GREATEST), chance.randrange(GREATEST)) for _ in range(6)]
        edges = [(GREATEST, GREATEST), (GREATEST, GREATEST - 1), (0, GREATEST), (GREATEST, 0)]
        for name, act in ALL.items():
            made = act(one, other)
            self.assertIs(type(made), Test)
            for m, n in [*all_points(2, 4), *great, *edges, *near]:
                expected = plain(name, *values(m, n))
                self.assertIs(made.of(m=m, n=n), expected, (name, m, n))
                self.assertIs(made.holds((("m", m), ("n", n))), expected, (name, m, n))

    def test_two_variables(self):
        near = [(GREATEST - 5 + by, GREATEST - 5) for by in range(5)]
        self.check(M, N, lambda m, n: (m, n), near)
        self.check(N, M, lambda m, n: (n, m), near)

    def test_words(self):
        near = [(at, at * 3 + by) for at in (7, 10 ** 50) for by in range(-3, 4)]
        self.check(3 * M, N + 2, lambda m, n: (3 * m, n + 2), near)
        self.check(M & N, M ^ N, lambda m, n: (m & n, m ^ n))
        self.check(M | 5, N & ~M, lambda m, n: (m | 5, n & ~m))
        self.check(M >> 2, N >> 1, lambda m, n: (m >> 2, n >> 1))
        self.check((M >> 4) + N, M, lambda m, n: ((m >> 4) + n, m))
        near = [(at, at * 8 + by) for at in (3, 10 ** 90) for by in range(-1, 9)]
        self.check(M, N >> 3, lambda m, n: (m, n >> 3), near)

    def test_words_below_zero(self):
        self.check(-M, N - 9, lambda m, n: (-m, n - 9))
        self.check(M - N, N - M, lambda m, n: (m - n, n - m))
        self.check(~M, -N - 4, lambda m, n: (~m, -n - 4))
        self.check((M - N) & 6, (N - 3) ^ -8, lambda m, n: ((m - n) & 6, (n - 3) ^ -8))

    def test_great_factors(self):
        self.check(16 * (M << 8), 16 * (N << 8) + 3, lambda m, n: (4096 * m, 4096 * n + 3))
        near = [(at, at * 255 + by) for at in (1, 10 ** 90) for by in range(-2, 3)]
        self.check((M << 8) - M, N, lambda m, n: (255 * m, n), near)

    def test_integers_on_either_side(self):
        for number in (0, 1, -1, 5, 8, -7, 1000, 10 ** 6, -10 ** 6):
            near = [(number + by, 0) for by in range(-2, 3) if number + by >= 0]
            self.check(M, number, lambda m, n: (m, number), near)
            self.check(number, M, lambda m, n: (number, m), near)
            self.check(M - N, number, lambda m, n: (m - n, number))
            self.check(word(number), M, lambda m, n: (number, m), near)

    def test_integers_alone(self):
        for one in (-3, 0, 3, 10 ** 6):
            for other in (-3, 3, -10 ** 6):
                for name, act in ALL.items():
                    for made in (act(word(one), other), act(one, word(other)), act(word(one), word(other))):
                        self.assertEqual((made.names, bool(made)), ((), plain(name, one, other)))
        self.assertEqual(same(4, 4), always())
        self.assertEqual(bool(same(4, -4)), False)
        self.assertEqual(rests(7, 4, 3), always())
        self.assertEqual(bool(rests(7, 4, 2)), False)
        self.assertEqual(rests(-7, 4, 1), always())

    def test_rests(self):
        chance = random.Random(8)
        words = [(M, lambda m, n: m), (M - 3 * N, lambda m, n: m - 3 * n), (M & N, lambda m, n: m & n),
                 (~M, lambda m, n: ~m), (12 * (M >> 1), lambda m, n: 12 * (m >> 1)), (M << 5, lambda m, n: m << 5),
                 ((M >> 4) - N, lambda m, n: (m >> 4) - n)]
        for modulus in range(2, 13):
            for made, value in words:
                rest = chance.randrange(modulus)
                test = rests(made, modulus, rest)
                self.assertIs(type(test), Test)
                for m, n in [*all_points(2, 4), *[(chance.randrange(GREATEST), GREATEST - m) for m in range(3)]]:
                    self.assertIs(test.of(m=m, n=n), value(m, n) % modulus == rest)

    def test_all_rests_of_a_variable(self):
        for modulus in range(2, 13):
            tests = [rests(M, modulus, rest) for rest in range(modulus)]
            for number in [*range(40), *range(GREATEST - 12, GREATEST + 1)]:
                self.assertEqual([test.of(m=number) for test in tests].index(True), number % modulus)
                self.assertEqual(sum(test.of(m=number) for test in tests), 1)

    def test_by_name_of_the_arguments(self):
        self.assertEqual(same(v=M, u=N), same(N, M))
        self.assertEqual(rests(rest=2, modulus=5, u=M), rests(M, 5, 2))


class Same(unittest.TestCase):
    def test_ways_to_the_same_test(self):
        for one, other in ((M, N), (M & N, M), (M - 3, 2 * N), (M >> 1, N)):
            self.assertEqual(one < other, other > one)
            self.assertEqual(one <= other, other >= one)
            self.assertEqual(one < other, ~(one >= other))
            self.assertEqual(one <= other, (one < other) | same(one, other))
            self.assertEqual(same(one, other), (one <= other) & (one >= other))
            self.assertEqual(one < other, one + 1 <= other)
            self.assertEqual(one < other, one - other < 0)
            self.assertEqual(same(one, other), same(one - other, 0))
            self.assertEqual(one < other, 4 * one < (other << 2))
        self.assertEqual(3 > M, M < 3)
        self.assertEqual(3 <= M, M >= 3)
        self.assertEqual(same(M & N, 0), same(M + N, M | N))
        self.assertEqual(same(M & 1, 1), rests(M, 2, 1))
        self.assertEqual(same(M & 7, 5), rests(M, 8, 5))
        self.assertEqual(rests(M, 6, 5), rests(M, 2, 1) & rests(M, 3, 2))
        self.assertEqual(rests(M + N, 3, 0), rests(2 * N - M, 3, 0))
        self.assertEqual(rests(-M, 5, 1), rests(M, 5, 4))
        self.assertEqual(same(M & (M - 1), 0).of(m=64), True)

    def test_names(self):
        self.assertEqual((N < M).names, ("m", "n"))
        self.assertEqual((M + N < N + K).names, ("k", "m"))
        self.assertEqual((M < M + 1).names, ())
        self.assertEqual((M >= 0).names, ())
        self.assertEqual(((M & N) <= M).names, ())
        self.assertEqual(same(M ^ N, M ^ K).names, ("k", "n"))
        self.assertEqual(rests(6 * M + N, 3, 0).names, ("n",))
        self.assertEqual(rests(6 * M + 2 * N, 2, 0).names, ())
        self.assertEqual(same((M >> 1) + K, N).names, ("k", "m", "n"))
        self.assertEqual((M < (N & 7)).names, ("m", "n"))


class Classes(unittest.TestCase):
    def test_by_hand(self):
        self.assertEqual((M < N).classes, 2)
        self.assertEqual((M <= N).classes, 2)
        self.assertEqual((M >= 0).classes, 1)
        self.assertEqual((M < 0).classes, 1)
        # m < 1 or never.
        self.assertEqual((M < 1).classes, 2)
        # m < 5, m < 3, m < 2, m < 1, never.
        self.assertEqual((M < 5).classes, 5)
        # m at 8, 4, 2, 1, 0, never.
        self.assertEqual(same(M, 8).classes, 6)
        self.assertEqual(same(M, N).classes, 2)
        self.assertEqual(same(M & N, 0).classes, 2)
        self.assertEqual([rests(M, modulus, 0).classes for modulus in (3, 5, 7, 9, 11)], [3, 5, 7, 9, 11])
        # Even, always, never; a rest of 5 by 12, of 2 by 6, three rests by 3, and never.
        self.assertEqual(rests(M, 2, 0).classes, 3)
        self.assertEqual(rests(M, 12, 5).classes, 6)
        self.assertEqual([rests(M, 8, rest).classes for rest in range(8)], [5] * 8)
        # 3 m - n + t < 0 for t from -1 to 2.
        self.assertEqual((3 * M < N).classes, 4)
        self.assertEqual((16 * M < N).classes, 17)
        self.assertEqual(same(3 * M, N).classes, 4)

    def test_by_brute(self):
        words = [(M, lambda m, n: m), (N, lambda m, n: n), (M & N, lambda m, n: m & n), (M + N, lambda m, n: m + n),
                 (2 * M - N, lambda m, n: 2 * m - n), ((M >> 1) ^ N, lambda m, n: (m >> 1) ^ n),
                 (N | 2, lambda m, n: n | 2), (word(3), lambda m, n: 3)]
        chance = random.Random(3)
        points = all_points(2, 4)
        for _ in range(30):
            (one, value), (other, value_beside) = chance.choice(words), chance.choice(words)
            name = chance.choice(list(ALL))
            made = ALL[name](one, other)

            def function(m, n):
                return plain(name, value(m, n), value_beside(m, n))
            if made.names == ("m", "n"):
                self.assertEqual(made.classes, classes(function, 2, points))
        for _ in range(12):
            one, value = chance.choice(words)
            modulus = chance.randint(2, 5)
            made = rests(one, modulus, 1)
            if made.names == ("m", "n"):
                self.assertEqual(made.classes, classes(lambda m, n: value(m, n) % modulus == 1, 2, points))


class Wrong(unittest.TestCase):
    def test_integers_out_of_range(self):
        for number in (10 ** 6 + 1, -10 ** 6 - 1, 10 ** 129, -10 ** 129):
            for act in ALL.values():
                self.assertEqual(raised(self, InvalidNumber, act, M, number).number, number)
                self.assertEqual(raised(self, InvalidNumber, act, number, M).number, number)
            self.assertEqual(raised(self, InvalidNumber, rests, number, 2, 1).number, number)
        self.assertEqual(raised(self, InvalidNumber, same, 10 ** 7, 10 ** 8).number, 10 ** 7)

    def test_other_operands(self):
        for other in [*OTHERS, formula(M), formula(3), M < N]:
            for act in ORDERS.values():
                self.assertRaises(TypeError, act, M, other)
                self.assertRaises(TypeError, act, other, M)
                self.assertRaises(TypeError, act, word(3), other)

    def test_what_is_no_word(self):
        for other in [*OTHERS, formula(M), formula(3), M < N]:
            self.assertIs(raised(self, NotAWord, same, other, M).value, other)
            self.assertIs(raised(self, NotAWord, same, M, other).value, other)
            self.assertIs(raised(self, NotAWord, rests, other, 3, 1).value, other)

    def test_wrong_moduli_and_rests(self):
        for modulus in (1, 0, -1, -2, 13, 10 ** 129, True, False, None, "3", (3,), M, word(3)):
            self.assertIs(raised(self, InvalidNumber, rests, M, modulus, 0).number, modulus)
        for modulus in (2, 7, 12):
            for rest in (-1, modulus, modulus + 1, 10 ** 129, True, False, None, "1", (1,), word(1)):
                self.assertIs(raised(self, InvalidNumber, rests, M, modulus, rest).number, rest)
            self.assertIs(type(rests(M, modulus, modulus - 1)), Test)
            self.assertIs(type(rests(M, modulus, 0)), Test)

    def test_the_order_of_errors(self):
        self.assertEqual(raised(self, NotAWord, same, None, 10 ** 7).value, None)
        self.assertEqual(raised(self, InvalidNumber, same, 10 ** 7, None).number, 10 ** 7)
        self.assertEqual(raised(self, NotAWord, same, M, True).value, True)
        self.assertEqual(raised(self, NotAWord, rests, "m", 1, -1).value, "m")
        self.assertEqual(raised(self, InvalidNumber, rests, 10 ** 7, 1, -1).number, 10 ** 7)
        self.assertEqual(raised(self, InvalidNumber, rests, M, 1, -1).number, 1)
        self.assertEqual(raised(self, InvalidNumber, rests, M + N + K, 13, -1).number, 13)

    def test_too_many_names(self):
        for act in ALL.values():
            raised(self, TooManyNames, act, M + N + K, P)
            raised(self, TooManyNames, act, P, M & N | K)
            raised(self, TooManyNames, act, M + N, K ^ P)
            # Names are looked at before classes, and those of both words count, also if none is one of the test.
            raised(self, TooManyNames, act, 16 * (M << 8), N + K + P)
            raised(self, TooManyNames, act, M + N, -K - P - 1)
            self.assertEqual(act(M + N + K, (P - P) + M + N + K).names, ())

    def test_256_classes_and_more(self):
        for made in ((M << 8) - M < N, (M << 8) - M <= N, N > 15 * ((M << 4) + M), same((M << 8) - M, N)):
            self.assertEqual(made.classes, 256)
            self.assertEqual(repr(made), "Test(256)")
        for act in ALL.values():
            raised(self, TooManyClasses, act, M << 8, N)
            raised(self, TooManyClasses, act, N, 16 * (M << 8))
            raised(self, TooManyClasses, act, 15 * ((M << 8) - M), N + 5)
        raised(self, TooManyClasses, operator.lt, (M << 8) & N, (N << 8) & K)
        raised(self, TooManyClasses, operator.lt, (16 * (M << 8)) & N, (16 * (N << 8)) & K)
        raised(self, TooManyClasses, rests, (M << 8) & N, 11, 3)

    def test_very_many_digits_that_are_kept_in_mind(self):
        # As words they need thousands of states, but the tests have few classes.
        great = 15 * ((M << 8) - M)
        self.assertEqual(rests(great, 11, 3), rests(3825 % 11 * M, 11, 3))
        self.assertEqual(rests(great, 12, 3), rests(9 * M, 12, 3))
        self.assertEqual(great >= M, always())
        self.assertEqual((great < 0).classes, 1)
        self.assertEqual(great <= 16 * (M << 8), always())
        self.assertEqual(16 * (M << 8) < 16 * (N << 8), M < N)
        self.assertEqual(same(16 * (M << 8) + 1, 16 * (N << 8)), M < 0)


class NothingChanges(unittest.TestCase):
    def test_words(self):
        one, other = M & ~N, (K << 3) ^ 5
        before = one.equations, other.equations, one.firsts, other.firsts
        results = []
        for _ in range(2):
            results.append([act(one, other) for act in ALL.values()] + [rests(one, 5, 2)])
            raised(self, InvalidNumber, operator.lt, one, 10 ** 7)
            raised(self, TooManyNames, same, one ^ other, P)
        self.assertEqual(results[0], results[1])
        self.assertEqual((one.equations, other.equations, one.firsts, other.firsts), before)


if __name__ == "__main__":
    unittest.main()

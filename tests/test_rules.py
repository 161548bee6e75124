"""Points 9 to 11: names, ranks, basic parts, fractions and values at 0."""

import random
import unittest

from bitcounts.errors import TooMany
from bitcounts.formulas import Formula
from bitcounts.piles import pile_of_rule
from bitcounts.rules import minimal_rule
from bitcounts.words import formula, var, word
from tests.brute import all_points, least_rule
from tests.support import raised, told

M, N, K = var("m"), var("n"), var("k")
ONE = ((1, 1),)
PLAIN = ((((2, 1), (0, 1)), ((0, 1), (1, 1))), (((2, 1), (1, 1)), ((-2, 1), (3, 1))))


class ByHand(unittest.TestCase):
    def test_zero(self):
        for zero in (formula(0), word(0), M - M, M * N - N * M, 0 * formula(M), (M - M) * N):
            self.assertEqual(told(zero), ((), 0, (), (), ()))
            self.assertEqual(zero.of(), 0)

    def test_integers(self):
        for number in (1, -1, 7, 10 ** 129, -10 ** 129):
            self.assertEqual(told(formula(number)), ((), 1, ((0, ()),), ((ONE,),), (number,)))
        self.assertEqual(told(word(-10 ** 6)), told(formula(-10 ** 6)))

    def test_a_variable(self):
        basis = ((0, (0,)), (1, (1,)))
        self.assertEqual(told(formula(N)), (("n",), 2, basis, PLAIN, (0, 1)))
        self.assertEqual(told(var("abcdefgh")), (("abcdefgh",), 2, basis, PLAIN, (0, 1)))

    def test_multiples_of_a_variable(self):
        for factor in (-3, 5, 10 ** 100):
            self.assertEqual(told(factor * formula(M)), (("m",), 2, ((0, (0,)), (1, (1,))), PLAIN, (0, factor)))

    def test_a_variable_and_an_integer(self):
        # f = m + 1: f(2 m) = 2 m + 1 comes first, and f(2 m + 1) = 2 m + 2 is 2 * f.
        rule = (("m",), 2, ((0, (0,)), (1, (0,))),
                ((((0, 1), (1, 1)), ((2, 1), (0, 1))), (((-2, 1), (3, 1)), ((2, 1), (1, 1)))), (1, 1))
        self.assertEqual(told(formula(M + 1)), rule)
        self.assertEqual(told(M + 1), rule)

    def test_a_fraction_that_is_no_integer(self):
        # f = 2 m + 3: 2 * f = 4 m + 6; f(2 m) = 4 m + 3 is no multiple, f(2 m + 1) = 4 m + 5.
        rule = 2 * formula(M) + 3
        self.assertEqual(rule.basis, ((0, (0,)), (1, (0,))))
        self.assertEqual(rule.firsts, (3, 3))
        # 4 m + 5 = a * (2 m + 3) + b * (4 m + 3), so a + b = 5 / 3 and a + 2 * b = 2.
        self.assertEqual(rule.equations[0], (((0, 1), (1, 1)), ((4, 3), (1, 3))))
        # 8 m + 3 and 8 m + 7 likewise.
        self.assertEqual(rule.equations[1], (((-2, 1), (3, 1)), ((2, 3), (5, 3))))

    def test_a_sum_of_two_variables(self):
        # With s for m + n the parts are 2 s, 2 s + 1, 2 s + 1, 2 s + 2.
        even, odd, more = ((2, 1), (0, 1)), ((0, 1), (1, 1)), ((-2, 1), (2, 1))
        second = (((2, 1), (1, 1)), ((-2, 1), (3, 1)), ((-2, 1), (3, 1)), ((-6, 1), (5, 1)))
        basis = ((0, (0, 0)), (1, (0, 1)))
        self.assertEqual(told(M + N), (("m", "n"), 2, basis, ((even, odd, odd, more), second), (0, 1)))

    def test_a_square(self):
        square = M * M
        self.assertEqual(square.basis, ((0, (0,)), (1, (1,)), (2, (1,))))
        self.assertEqual(square.firsts, (0, 1, 1))
        self.assertEqual(square.equations[0], (((4, 1), (0, 1), (0, 1)), ((0, 1), (1, 1), (0, 1))))
        # f(4 m + 3) = 16 m ** 2 + 24 m + 9 of m ** 2, 4 m ** 2 + 4 m + 1, 16 m ** 2 + 8 m + 1.
        self.assertEqual(square.equations[1], (((0, 1), (0, 1), (1, 1)), ((16, 1), (12, 1), (-3, 1))))

    def test_a_product_of_two_variables(self):
        product = M * N
        self.assertEqual(product.rank, 4)
        self.assertEqual(product.basis, ((0, (0, 0)), (1, (0, 1)), (1, (1, 0)), (1, (1, 1))))
        self.assertEqual(product.firsts, (0, 0, 0, 1))
        nothing, first = ((0, 1),) * 4, ((4, 1), (0, 1), (0, 1), (0, 1))
        self.assertEqual(product.equations[0], (first, (*nothing[:1], (1, 1), *nothing[2:]),
                                                (*nothing[:2], (1, 1), *nothing[3:]), (*nothing[:3], (1, 1))))

    def test_names_are_ascending_and_those_on_which_the_values_hang(self):
        self.assertEqual((formula(N) + M * K).names, ("k", "m", "n"))
        self.assertEqual((M * N - N * (M + 1) + 2 * N).names, ("n",))
        self.assertEqual((var("b") * var("aa") + var("ab")).names, ("aa", "ab", "b"))
        self.assertEqual(((M + N) ** 2 - M * M - 2 * M * N).names, ("n",))
        self.assertEqual(((M + N + K) - N).names, ("k", "m"))


class OtherWays(unittest.TestCase):
    def check_same(self, formulas):
        for other in formulas[1:]:
            self.assertEqual(told(other), told(formulas[0]))
            self.assertTrue(other == formulas[0])

    def test_sums(self):
        self.check_same([M + N, N + M, N - 1 + M + 1, M + N + K - K, 2 * M + N - M, formula(M) + N, -(-N - M), N - -M])

    def test_products(self):
        self.check_same([M * N * K, K * (N * M), (M * K) * formula(N), (M + 1) * N * K - K * N])
        self.check_same([(M + N) ** 2, M * M + 2 * M * N + N * N, (M + N) * (N + M), M * (M + N) + N * (M + N)])
        self.check_same([(M - 3) ** 3, M ** 3 - 9 * M ** 2 + 27 * formula(M) - 27, (M - 3) ** 2 * (M - 3)])

    def test_integers(self):
        self.check_same([formula(6), formula(2) * 3, formula(7) - 1, word(2) + 4, M - M + 6, formula(-6) * -1])

    def test_names_that_vanish(self):
        self.check_same([formula(N), M * N - N * (M - 1), (M * N + N) - M * N, 3 * formula(N) - N - N])


class ByBrute(unittest.TestCase):
    def check(self, made, function, size, places):
        basis, equations, firsts = least_rule(function, size, all_points(size, places))
        self.assertEqual((made.rank, made.basis, made.equations, made.firsts), (len(basis), basis, equations, firsts))

    def test_one_name(self):
        self.check(M ** 3, lambda m: m ** 3, 1, 3)
        self.check(M ** 3 * M, lambda m: m ** 4, 1, 3)
        self.check(5 * M ** 3 - 7 * M * M + 3, lambda m: 5 * m ** 3 - 7 * m * m + 3, 1, 3)
        self.check((3 * M - 2) ** 2, lambda m: (3 * m - 2) ** 2, 1, 3)

    def test_two_names(self):
        self.check(M * N, lambda m, n: m * n, 2, 2)
        self.check((M - 2 * N + 5) ** 2, lambda m, n: (m - 2 * n + 5) ** 2, 2, 2)
        self.check(M * M * N + 3 * N - 1, lambda m, n: m * m * n + 3 * n - 1, 2, 2)

    def test_three_names(self):
        self.check(3 * (K - 4 * M) + N, lambda k, m, n: 3 * (k - 4 * m) + n, 3, 1)
        self.check(K * M - N, lambda k, m, n: k * m - n, 3, 1)
        self.check(K * M * N, lambda k, m, n: k * m * n, 3, 1)

    def test_many_polynomials(self):
        chance = random.Random(1)
        for _ in range(12):
            factors = [chance.randint(-9, 9) for _ in range(5)]
            made = sum([factor * term for factor, term in zip(factors, [formula(1), M, N, M * N, M * M])], formula(0))

            def function(m, n):
                return sum(factor * term for factor, term in zip(factors, [1, m, n, m * n, m * m]))
            if made.names == ("m", "n"):
                self.check(made, function, 2, 2)


class ManyLines(unittest.TestCase):
    """More lines that are no combinations than are looked at at once."""

    def setUp(self):
        # The lines are m // 2 ** 60, m // 2 ** 59 and so on, m itself, and 1.
        fewer = [(((place + 1, 1),), 1) for place in range(60)]
        one = ((61, 1),), 1
        self.sides = (*fewer, (((60, 2),), 1), one), (*fewer, (((60, 2), (61, 1)), 1), one)
        self.starts = (*[0] * 61, 1)

    def test_a_line_of_small_rank(self):
        made = Formula(pile_of_rule(minimal_rule(("m",), self.sides, self.starts, (((60, 1),), 1)), None))
        self.assertEqual(told(made), told(var("m")))
        made = Formula(pile_of_rule(minimal_rule(("m",), self.sides, self.starts, (((58, 1),), 1)), None))
        self.assertEqual(told(made), told(var("m") >> 2))
        made = Formula(pile_of_rule(minimal_rule(("m",), self.sides, self.starts, (((56, 3), (60, -1), (61, 5)), 1)), None))
        self.assertEqual(told(made), told(3 * (var("m") >> 4) - var("m") + 5))

    def test_a_line_of_great_rank(self):
        raised(self, TooMany, minimal_rule, ("m",), self.sides, self.starts, (((0, 1),), 1))
        raised(self, TooMany, minimal_rule, ("m",), self.sides, self.starts, (((45, 1),), 1))
        self.assertEqual(len(minimal_rule(("m",), self.sides, self.starts, (((46, 1),), 1)).parts), 16)


class OtherSides(unittest.TestCase):
    """Least rules of lines that hang on digits in other ways than those of polynomials."""

    def check(self, names, sides, starts, function, places):
        made = Formula(pile_of_rule(minimal_rule(names, sides, starts, (((0, 1),), 1)), None))
        size = len(names)
        basis, equations, firsts = least_rule(function, size, all_points(size, places))
        self.assertEqual(told(made), (names, len(basis), basis, equations, firsts))
        return made

    def test_ones(self):
        one = (((1, 1),), 1)
        sides = ((((0, 1),), 1), one), ((((0, 1), (1, 1)), 1), one)
        made = self.check(("m",), sides, (0, 1), lambda m: bin(m).count("1"), 4)
        self.check_squares(made)

    def check_squares(self, made):
        basis, equations, firsts = least_rule(lambda m: (bin(m).count("1") + m) ** 2, 1, all_points(1, 4))
        self.assertEqual(told((made + M) ** 2)[2:], (basis, equations, firsts))

    def test_and(self):
        same, twice, one = (((1, 1),), 1), (((0, 2),), 1), (((0, 2), (1, 1)), 1)
        sides = (twice, same), (twice, same), (twice, same), (one, same)
        made = self.check(("m", "n"), sides, (0, 1), lambda m, n: m & n, 2)
        basis, equations, firsts = least_rule(lambda m, n: (m & n) * m, 2, all_points(2, 2))
        self.assertEqual(told(made * M)[2:], (basis, equations, firsts))

    def test_lines_that_are_not_needed(self):
        # The lines m, 1, 3 * m, and one that is 0 everywhere.
        sides = (
            ((((2, 2),), 3), (((1, 1),), 1), (((2, 2), (3, 5)), 1), (((3, 1),), 1)),
            ((((0, 2), (1, 1)), 1), (((1, 1),), 1), (((1, 3), (2, 2)), 1), (((3, 9),), 2)),
        )
        self.check(("m",), sides, (0, 1, 0, 0), lambda m: m, 3)

    def test_a_name_on_which_nothing_hangs(self):
        plain = (((0, 2),), 1), (((1, 1),), 1)
        odd = (((0, 2), (1, 1)), 1), (((1, 1),), 1)
        for sides, name in (((plain, plain, odd, odd), "a"), ((plain, odd, plain, odd), "b")):
            made = Formula(pile_of_rule(minimal_rule(("a", "b"), sides, (0, 1), (((0, 1),), 1)), None))
            self.assertEqual(told(made), told(var(name)))


if __name__ == "__main__":
    unittest.main()

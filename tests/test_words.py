"""Variables, integers, their sums and multiples, and their way into formulas; other words are in test_bits."""

import operator
import unittest

from bitcounts.errors import InvalidName, InvalidNumber, InvalidValues, NotAFormula, TooManyNames, WrongNames
from bitcounts.formulas import Formula
from bitcounts.words import Word, formula, var, word
from tests.support import Other, raised, told

M, N, K, P = var("m"), var("n"), var("k"), var("p")


class Making(unittest.TestCase):
    def test_variables(self):
        for name in ("m", "z", "abcdefgh", "not", "self"):
            self.assertIs(type(var(name)), Word)
            self.assertEqual(var(name=name).names, (name,))
            self.assertEqual(var(name).at(((name, 6),)), 6)

    def test_wrong_names(self):
        for name in ("", "M", "m1", "abcdefghi", "m n", "m\n", "_", None, True, 3, b"m", ("m",), ["m"], Other(), M):
            self.assertIs(raised(self, InvalidName, var, name).name, name)

    def test_integers(self):
        for number in (0, 1, -1, 10 ** 6, -10 ** 6):
            self.assertIs(type(word(number)), Word)
            self.assertEqual(word(c=number).of(), number)
            self.assertEqual(word(number).names, ())

    def test_wrong_integers(self):
        for number in (10 ** 6 + 1, -10 ** 6 - 1, 10 ** 129, True, False, None, "1", (1,), M):
            self.assertIs(raised(self, InvalidNumber, word, number).number, number)

    def test_formulas(self):
        made = formula(M * N)
        self.assertIs(formula(made), made)
        self.assertIs(formula(f=made), made)
        self.assertIs(type(formula(M)), Formula)
        self.assertEqual(told(formula(M)), told(M))
        self.assertEqual(formula(10 ** 129).of(), 10 ** 129)

    def test_what_is_no_formula(self):
        for value in (None, True, False, "m", "", (), [], {}, b"", Other(), Formula, ("m", 1)):
            self.assertIs(raised(self, NotAFormula, formula, value).value, value)


class Operators(unittest.TestCase):
    def check(self, made, kind, function):
        self.assertIs(type(made), kind)
        for m in (0, 1, 2, 6, 31):
            for n in (0, 1, 5, 16):
                self.assertEqual(made.of(m=m, n=n), function(m, n))

    def test_words_alone_make_words(self):
        self.check(M + N, Word, lambda m, n: m + n)
        self.check(M - N, Word, lambda m, n: m - n)
        self.check(-M, Word, lambda m, n: -m)
        for number in (0, 3, -10 ** 6, 10 ** 6):
            self.check(M + number, Word, lambda m, n: m + number)
            self.check(number + M, Word, lambda m, n: m + number)
            self.check(M - number, Word, lambda m, n: m - number)
            self.check(number - M, Word, lambda m, n: number - m)
        for number in (0, 1, -1, 16, -16):
            self.check(number * M, Word, lambda m, n: number * m)
            self.check((M - N) * number, Word, lambda m, n: number * (m - n))

    def test_products_and_powers_are_formulas(self):
        self.check(M * N, Formula, lambda m, n: m * n)
        self.check(M * word(3), Formula, lambda m, n: 3 * m)
        for exponent in range(4):
            self.check((M + N) ** exponent, Formula, lambda m, n: (m + n) ** exponent)

    def test_formulas_beside_words_make_formulas(self):
        for made in (M + formula(N), formula(N) + M, M - formula(N), formula(N) - M, M * formula(N), formula(N) * M):
            self.assertIs(type(made), Formula)

    def test_integers_out_of_range(self):
        for number in (10 ** 6 + 1, -10 ** 6 - 1, 10 ** 129):
            for act in (operator.add, operator.sub):
                self.assertEqual(raised(self, InvalidNumber, act, M, number).number, number)
                self.assertEqual(raised(self, InvalidNumber, act, number, M).number, number)
        for number in (17, -17, 10 ** 129):
            self.assertEqual(raised(self, InvalidNumber, operator.mul, M, number).number, number)
            self.assertEqual(raised(self, InvalidNumber, operator.mul, number, M).number, number)

    def test_other_operands(self):
        for other in (True, False, None, "m", (), [1], {}, Other()):
            for act in (operator.add, operator.sub, operator.mul):
                self.assertRaises(TypeError, act, M, other)
                self.assertRaises(TypeError, act, other, M)
            self.assertRaises(TypeError, operator.pow, M, other)
            self.assertRaises(TypeError, operator.pow, other, M)
        for exponent in (M, formula(2)):
            self.assertRaises(TypeError, operator.pow, M, exponent)
        self.assertRaises(TypeError, operator.pow, 2, M)

    def test_too_many_names(self):
        for act in (operator.add, operator.sub, operator.mul):
            raised(self, TooManyNames, act, M + N + K, P)
            raised(self, TooManyNames, act, P, M + N + K)
            raised(self, TooManyNames, act, P, formula(M + N + K))


class Values(unittest.TestCase):
    def test_errors(self):
        self.assertEqual(raised(self, InvalidValues, M.at, [("m", 1)]).index, None)
        self.assertEqual(raised(self, InvalidValues, M.at, (("m", 1), ("m", 2))).index, 1)
        self.assertEqual(raised(self, WrongNames, (M + N).at, (("n", 1),)).name, "m")
        self.assertEqual(raised(self, InvalidName, M.of, **{"m": -1, "X": 1}).name, "X")
        self.assertEqual(raised(self, InvalidNumber, M.of, n=-1).number, -1)
        self.assertEqual(raised(self, WrongNames, M.of, n=1).name, "m")

    def test_repr_and_truth(self):
        self.assertEqual([repr(made) for made in (word(0), word(3), M, M + N + 1)],
                         ["Word(0)", "Word(1)", "Word(2)", "Word(2)"])
        self.assertEqual([bool(made) for made in (word(0), M - M, word(-1), M)], [False, False, True, True])


if __name__ == "__main__":
    unittest.main()

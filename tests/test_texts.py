"""Texts of words, formulas and tests: what they tell, and texts that are nearly right."""

import random
import unittest

from bitcounts.conditions import Test
from bitcounts.counting import length, one_if, ones
from bitcounts.errors import InvalidText, TooMany, TooManyClasses, TooManyNames
from bitcounts.formulas import Formula
from bitcounts.texts import read_formula, read_test, read_word
from bitcounts.words import Word, formula, same, var, word
from tests.support import Other, raised, told

M, N, K, P = var("m"), var("n"), var("k"), var("p")
OTHERS = [None, True, False, 0, 5, (), ("m",), ["m"], {"m": 1}, b"m", Other(), Other, M, formula(M), M < N]
READERS = (read_word, read_formula, read_test)
WORDS = {
    "m": M, "0": word(0), "7": word(7), "1000000": word(10 ** 6), "abcdefgh": var("abcdefgh"), "(m + n)": M + N,
    "(m - n)": M - N, "(m & n)": M & N, "(m | n)": M | N, "(m ^ n)": M ^ N, "(m << 0)": M, "(m << 8)": M << 8,
    "(m >> 0)": M, "(m >> 4)": M >> 4, "(0 * m)": word(0), "(16 * m)": 16 * M, "(3 * 4)": word(12), "(- m)": -M,
    "(~ m)": ~M, "(- (- m))": M, "(~ (m + 1))": ~(M + 1), "((m ^ n) + (2 * (m & n)))": M + N, "(- 5)": word(-5),
    "(1000000 + 1000000)": word(10 ** 6) + 10 ** 6, "(7 << 8)": word(7) << 8, "((m + n) << 3)": (M + N) << 3,
    "(m & (m - 1))": M & M - 1, "((m >> 1) ^ m)": M ^ M >> 1, "(5 & (- 2))": word(4), "(4 - (m - n))": 4 - (M - N),
    "(ones + length)": var("ones") + var("length"), "(and & or)": var("and") & var("or"), "(not - 1)": var("not") - 1,
    "ones": var("ones"), "length": var("length"), "not": var("not"), "(ones >> 1)": var("ones") >> 1,
    "(- ones)": -var("ones"), "(~ not)": ~var("not"), "(12 * (m >> 2))": 12 * (M >> 2), "(and + and)": 2 * var("and"),
}
FORMULAS = {
    "ones(m)": ones(M), "length(m)": length(M), "ones(7)": formula(3), "ones((m + n))": ones(M + N),
    "length(ones)": length(var("ones")), "(ones(m) + ones(n))": ones(M) + ones(N), "(ones(m) - 3)": ones(M) - 3,
    "(3 - length(m))": 3 - length(M), "(m * n)": M * N, "(17 * m)": 17 * formula(M), "(m * 3)": 3 * formula(M),
    "(1000000 * m)": 10 ** 6 * formula(M), "(- ones(m))": -ones(M), "(ones(m) * (n - 1))": ones(M) * (N - 1),
    "((m * n) + k)": M * N + K, "((m + 1) * (m - 1))": M * M - 1, "(2 * ones(m))": 2 * ones(M),
    "(16 * (m * n))": 16 * (M * N), "(- (m * m))": -(M * M), "(ones * ones(ones))": var("ones") * ones(var("ones")),
    "((- 3) * m)": -3 * formula(M), "ones((ones - length))": ones(var("ones") - var("length")),
    "((ones(m) + ones(n)) - ones((m + n)))": ones(M) + ones(N) - ones(M + N), "(length(m) * 0)": formula(0),
    "((m * n) - (n * m))": formula(0), "(and * (or + 1))": var("and") * (var("or") + 1),
}
TESTS = {
    "(m < n)": M < N, "(m <= n)": M <= N, "(m == n)": same(M, N), "((m < n) and (n < 5))": (M < N) & (N < 5),
    "((m < n) or (m == n))": M <= N, "(not (m < n))": M >= N, "(not (not (m < n)))": M < N,
    "((m & n) == 0)": same(M & N, 0), "(not < m)": var("not") < M, "(not == not)": ~(M < 0), "(and <= or)":
    var("and") <= var("or"), "((and < or) and (or < and))": M < 0, "((m + 1) <= (2 * n))": M + 1 <= 2 * N,
    "(ones < length)": var("ones") < var("length"), "(not (not < and))": var("not") >= var("and"), "(1 < 2)": M >= 0,
    "((not (m < 3)) or (not (n < 3)))": (M >= 3) | (N >= 3), "((not < m) or (m < not))": ~same(M, var("not")),
}
# Texts of no kind.
NEARLY = """+m|m |+ m|(m)|((m + n))|m + n|(m+n)|(m +n)|(m+ n)|(m  + n)|(m +  n)|( m + n)|(m + n |(m + n) |+(m + n)|(m + n
(m + n))|()|(+ m)|(-m)|(- m|(-  m)|(~m)|(~  m)|- m|-5|(m -n)|(m - -1)|M|(M + n)|m1|abcdefghi|(abcdefghi + m)|m_|_|''
00|01|007|1000001|10000000|(00 + m)|(m + 01)|1.0|1e3|0x1|(m << 9)|(m << 08)|(m << n)|(m << (1))|(m << -1)|(m <<8)
(m >> 5)|(m >> 04)|(m >> n)|((m + n) >> 1)|(5 >> 1)|((m) >> 1)|((m >> 1) >> 1)|(m >>1)|(m << )|(m >> )|(m @ n)
(m / n)|(m // n)|(m % n)|(m ** 2)|(m and n)|(m or n)|(not m)|(m not n)|(m == n == k)|(m = n)|(m != n)|(m > n)|(m >= n)
(m < n < k)|((m < n) & (n < m))|((m < n) + 1)|((m < n) and m)|(m and (m < n))|((m < n) and(n < m))|((m < n)and (n < m))
((m < n) and (n < m) and (k < m))|((m < n) xor (n < m))|(not(m < n))|(not  (m < n))|not (m < n)|(~ (m < n))
(- (m < n))|((m < n) * (n < m))|((m < n) == (n < m))|((m < n) << 1)|ones|ones m|(ones m)|ones()|ones(m|ones(m + n)
ones((m < n))|ones(ones(m))|ones(length(m))|ones (m)|ones( m)|ones(m )|ones(m) |one(m)|lengths(m)|length((m)|length(m))
(ones(m) & n)|(m | ones(n))|(~ ones(m))|(ones(m) << 1)|(ones(m) < 3)|(3 == length(m))|(ones(m) >> 1)|onesx(m)
(m, n)|[m]|{m}|m;|(m + )|( + m)|(m n)|(3 m)|3m|m3|(m + n) + k|(m + n)(k + m)|((m + n) + k|(m + (n + k)|)m(|)(|((|))
(m & & n)|(m < < n)|(m << 1 << 1)|( - m)|(- )|(~ )|(-)|(not )|(not)|(not ())|(and)|(and and and)|((m < n) and and)
(5 * -3)|(1_000 + m)|(m + 1 000)|"m"|(m ~ n)|(m ^^ n)|(m &&n)|(m<n)|(m<= n)|(m <=n)|(ones(m)+ 1)|(ones(m) +1)""".replace(
    "\n", "|").split("|")


def plain(text):
    return text not in ("ones", "''")


class Reading(unittest.TestCase):
    def test_words(self):
        for text, expected in WORDS.items():
            made = read_word(text)
            self.assertIs(type(made), Word)
            self.assertEqual(made, expected, text)
            self.assertEqual(told(made), told(expected))

    def test_words_as_formulas(self):
        for text, expected in WORDS.items():
            made = read_formula(text)
            self.assertIs(type(made), Formula)
            self.assertEqual(told(made), told(formula(expected)), text)

    def test_formulas(self):
        for text, expected in FORMULAS.items():
            made = read_formula(text)
            self.assertIs(type(made), Formula)
            self.assertEqual(told(made), told(expected), text)
            self.assertEqual(raised(self, InvalidText, read_word, text).text, text)

    def test_tests(self):
        for text, expected in TESTS.items():
            made = read_test(text)
            self.assertIs(type(made), Test)
            if made.names:
                self.assertEqual(made.names, expected.names, text)
            self.assertEqual(made, expected, text)

    def test_the_same_reader_for_each_kind(self):
        for text in [*WORDS, *FORMULAS]:
            self.assertEqual(raised(self, InvalidText, read_test, text).text, text)
        for text in TESTS:
            for act in (read_word, read_formula):
                self.assertEqual(raised(self, InvalidText, act, text).text, text)

    def test_by_name(self):
        self.assertEqual([read_word(text="m"), read_formula(text="m")], [M, formula(M)])
        self.assertEqual(read_test(text="(m < n)"), M < N)

    def test_drawn_texts(self):
        chance = random.Random(7)
        for _ in range(150):
            text, function = drawn(chance, 3)
            try:
                made = read_word(text)
            except TooMany:
                continue
            for m, n in ((0, 0), (1, 5), (6, 3), (7, 12), (10 ** 20, 3 ** 40)):
                self.assertEqual(made.of(m=m, n=n), function(m, n), text)


def drawn(chance, depth):
    if depth == 0 or chance.random() < 0.2:
        number = chance.randint(0, 9)
        return chance.choice([("m", lambda m, n: m), ("n", lambda m, n: n), (str(number), lambda m, n: number)])
    one, first = drawn(chance, depth - 1)
    other, second = drawn(chance, depth - 1)
    factor = chance.randint(0, 4)
    return chance.choice([
        (f"({one} + {other})", lambda m, n: first(m, n) + second(m, n)),
        (f"({one} - {other})", lambda m, n: first(m, n) - second(m, n)),
        (f"({one} & {other})", lambda m, n: first(m, n) & second(m, n)),
        (f"({one} | {other})", lambda m, n: first(m, n) | second(m, n)),
        (f"({one} ^ {other})", lambda m, n: first(m, n) ^ second(m, n)),
        (f"({one} << {factor})", lambda m, n: first(m, n) << factor),
        (f"({factor} * {one})", lambda m, n: factor * first(m, n)),
        (f"(m >> {factor})", lambda m, n: m >> factor),
        (f"(- {one})", lambda m, n: -first(m, n)),
        (f"(~ {one})", lambda m, n: ~first(m, n)),
    ])


class Refusing(unittest.TestCase):
    def test_nearly_right(self):
        for text in filter(plain, NEARLY):
            for act in READERS:
                with self.subTest(text):
                    self.assertIs(raised(self, InvalidText, act, text).text, text)

    def test_other_signs(self):
        for text in ("", " ", "\n", "m\n", "\nm", "(m +\nn)", "(m\n+ n)", "''", "\\", "m" * 9, "9" * 19000, "(" * 20000,
                     "m" * 20000, " " * 11000, "1" + "0" * 10000, "(m + " * 40 + "n" + ")" * 39, "$", "~", "#m"):
            for act in READERS:
                self.assertIs(raised(self, InvalidText, act, text).text, text)

    def test_values_of_other_kinds(self):
        for act in READERS:
            for value in OTHERS:
                self.assertIs(raised(self, InvalidText, act, value).text, value)

    def test_forty_parentheses(self):
        for many in (39, 40):
            self.assertEqual(read_word("(- " * many + "m" + ")" * many), M if many == 40 else -M)
            self.assertEqual(read_formula("(1 + " * many + "m" + ")" * many), formula(M + many))
            inside = "(1 + " * (many - 2) + "m" + ")" * (many - 2)
            self.assertEqual(read_test(f"({inside} < (n + 0))"), M + many - 2 < N)
        deep = "(- " * 41 + "m" + ")" * 41
        for act in READERS:
            self.assertEqual(raised(self, InvalidText, act, deep).text, deep)
        calls = "(" * 40 + "ones(m)" + " + 1)" * 40
        self.assertEqual(raised(self, InvalidText, read_formula, calls).text, calls)
        calls = "(" * 39 + "ones(m)" + " + 1)" * 39
        self.assertEqual(read_formula(calls), ones(M) + 39)
        beside = "(" + " + ".join(["(0 + 1)"] * 2) + ")"
        self.assertEqual(read_word(beside), word(2))
        wide = "(m < n)"
        for _ in range(4):
            wide = f"({wide} and {wide})"
        self.assertEqual(wide.count("("), 31)
        self.assertEqual(read_test(wide), M < N)
        wide = f"({wide} or {wide})"
        self.assertEqual(raised(self, InvalidText, read_test, wide).text, wide)

    def test_what_making_raises(self):
        raised(self, TooManyNames, read_word, "((m + n) + (k + p))")
        raised(self, TooManyNames, read_formula, "(ones((m + n)) * (k + p))")
        raised(self, TooManyNames, read_test, "((m + n) == (k + p))")
        raised(self, TooManyNames, read_test, "((m < n) or (k < p))")
        raised(self, TooMany, read_word, "(m & 65536)")
        raised(self, TooMany, read_formula, "ones((m + 999999))")
        raised(self, TooManyClasses, read_test, "(m < (16 * (16 * (16 * n))))")

    def test_the_first_of_several_errors(self):
        # In the order in which the operators end.
        raised(self, TooMany, read_word, "((m & 65536) + ((m + n) + (k + p)))")
        raised(self, TooManyNames, read_word, "(((m + n) + (k + p)) + (m & 65536))")
        raised(self, TooManyNames, read_test, "(((m + n) < (k + p)) and (m < (16 * (16 * (16 * n)))))")
        raised(self, TooManyClasses, read_test, "((m < (16 * (16 * (16 * n)))) and ((m + n) < (k + p)))")
        # A text is looked at as a whole first.
        text = "((m & 65536) + (m + n)"
        self.assertEqual(raised(self, InvalidText, read_word, text).text, text)

    def test_names_that_drop_out(self):
        self.assertEqual(read_word("((m + n) + ((k + p) - (k + p)))"), M + N)
        self.assertEqual(read_test("((m < n) or ((k < p) and (p < k)))"), M < N)
        self.assertEqual(read_formula("((m * n) + (0 * (k + p)))"), M * N)
        self.assertEqual(one_if(read_test("(m < m)")), formula(0))


if __name__ == "__main__":
    unittest.main()

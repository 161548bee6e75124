import operator
import random
import unittest

from bitcounts.errors import (
    InvalidName, InvalidNumber, InvalidValues, TooMany, TooManyNames, WrongNames,
)
from bitcounts.formulas import Formula
from bitcounts.words import Word, formula, var, word
from tests.support import Other, raised, told

M, N, K, P = var("m"), var("n"), var("k"), var("p")
FM, FN = formula(M), formula(N)
GREATEST = 10 ** 100
OTHERS = [True, False, None, "m", "", (), (1,), [1], {"m": 1}, b"m", Other(), Other]


def of_rank_16():
    return M ** 3 * N ** 3


class Values(unittest.TestCase):
    def test_small_numbers(self):
        made = 3 * M * N - N + 7
        for m in range(20):
            for n in range(20):
                self.assertEqual(made.of(m=m, n=n), 3 * m * n - n + 7)
                self.assertEqual(made.at((("m", m), ("n", n))), 3 * m * n - n + 7)

    def test_great_numbers(self):
        chance = random.Random(2)
        made = (M - 3 * N) ** 3 + 10 ** 129
        for m in (0, 1, GREATEST - 1, GREATEST, chance.randrange(GREATEST)):
            for n in (0, GREATEST, chance.randrange(GREATEST)):
                self.assertEqual(made.of(n=n, m=m), (m - 3 * n) ** 3 + 10 ** 129)
        self.assertEqual(FM.at((("m", GREATEST),)), GREATEST)
        self.assertIs(type(made.of(m=1, n=1)), int)

    def test_names_beside_its_own(self):
        self.assertEqual(FM.at((("a", 9), ("m", 5), ("n", 1), ("x", 0), ("z", 3))), 5)
        self.assertEqual(FM.of(z=9, m=5, a=1), 5)
        self.assertEqual(formula(7).at(()), 7)
        self.assertEqual(formula(7).of(), 7)
        self.assertEqual(formula(7).of(pairs=3, numbers=2), 7)
        self.assertEqual(formula(0).at((("m", 1),)), 0)
        self.assertEqual(formula(var("pairs")).of(pairs=3), 3)

    def test_a_variable_called_self(self):
        own = formula(var("self"))
        self.assertEqual(own.at((("self", 6),)), 6)
        self.assertEqual(raised(self, WrongNames, own.of).name, "self")

    def test_by_name_of_the_argument(self):
        self.assertEqual(FM.at(pairs=(("m", 2),)), 2)


class Operators(unittest.TestCase):
    def check(self, made, function):
        self.assertIs(type(made), Formula)
        for m in (0, 1, 2, 5, 12, 31):
            for n in (0, 1, 3, 8, 10):
                self.assertEqual(made.of(m=m, n=n), function(m, n))

    def test_formulas(self):
        self.check(FM + FN, lambda m, n: m + n)
        self.check(FM - FN, lambda m, n: m - n)
        self.check(FM * FN, lambda m, n: m * n)
        self.check(-FM, lambda m, n: -m)
        self.check(-(FM * FN - 3), lambda m, n: 3 - m * n)

    def test_words_on_either_side(self):
        self.check(FM + N, lambda m, n: m + n)
        self.check(N + FM, lambda m, n: m + n)
        self.check(FM - N, lambda m, n: m - n)
        self.check(N - FM, lambda m, n: n - m)
        self.check(FM * N, lambda m, n: m * n)
        self.check(N * FM, lambda m, n: m * n)
        self.check(M * N, lambda m, n: m * n)

    def test_integers_on_either_side(self):
        for number in (0, 1, -1, 17, 10 ** 6 + 1, -10 ** 129):
            self.check(FM + number, lambda m, n: m + number)
            self.check(number + FM, lambda m, n: m + number)
            self.check(FM - number, lambda m, n: m - number)
            self.check(number - FM, lambda m, n: number - m)
            self.check(FM * number, lambda m, n: m * number)
            self.check(number * FM, lambda m, n: m * number)

    def test_sum_of_a_list(self):
        self.check(sum([FM, FN, FM]), lambda m, n: 2 * m + n)

    def test_powers(self):
        for made in (M - N, FM - FN):
            for exponent in range(4):
                self.check(made ** exponent, lambda m, n: (m - n) ** exponent)
        self.assertEqual(told(formula(0) ** 0), told(formula(1)))
        self.assertEqual(told(of_rank_16() ** 1), told(of_rank_16()))
        self.assertEqual(told(of_rank_16() ** 0), told(formula(1)))

    def test_other_operands(self):
        for other in OTHERS:
            for made in (FM, formula(0)):
                for act in (operator.add, operator.sub, operator.mul):
                    self.assertRaises(TypeError, act, made, other)
                    self.assertRaises(TypeError, act, other, made)
                self.assertRaises(TypeError, operator.pow, made, other)
                self.assertRaises(TypeError, operator.pow, other, made)

    def test_operators_that_formulas_do_not_have(self):
        for act in (operator.and_, operator.or_, operator.xor, operator.lshift, operator.rshift, operator.floordiv,
                    operator.mod, operator.truediv, operator.lt, operator.le, operator.gt, operator.ge):
            for other in (FM, M, 2):
                self.assertRaises(TypeError, act, FM, other)
        for act in (operator.invert, operator.pos, abs, len, int, iter):
            self.assertRaises(TypeError, act, FM)
        for exponent in (FM, M, formula(2), word(2)):
            self.assertRaises(TypeError, operator.pow, FM, exponent)
            self.assertRaises(TypeError, operator.pow, 2, exponent)


class Equality(unittest.TestCase):
    def check_equal(self, one, other, expected):
        for left, right in ((one, other), (other, one)):
            self.assertIs(left == right, expected)
            self.assertIs(left != right, not expected)

    def test_formulas_and_words(self):
        self.check_equal(FM, formula(var("m")), True)
        self.check_equal(FM, M, True)
        self.check_equal(M * N + M, FM + N * M, True)
        self.check_equal(formula(3), word(3), True)
        self.check_equal(M, M + 0, True)
        for other in (FN, N, FM + 1, 2 * FM, formula(0), M * M, M * N, -FM):
            self.check_equal(FM, other, False)
        # Both have the same basic parts with the same values at 0.
        self.check_equal(M * M + 2 * M, 2 * FM * M + M, False)
        self.check_equal(formula(3), word(-3), False)
        self.check_equal(formula(3), formula(4), False)
        self.check_equal(FM ** 3, FM ** 2, False)
        self.check_equal(FM + 10 ** 129, FM + (10 ** 129 + 1), False)

    def test_integers_are_never_equal(self):
        for number in (0, 1, 3, -3, True, False):
            self.check_equal(formula(int(number)), number, False)
            self.check_equal(word(int(number)), number, False)

    def test_other_things(self):
        for other in OTHERS + [told(FM)]:
            self.check_equal(FM, other, False)
            self.check_equal(formula(0), other, False)


class TruthAndText(unittest.TestCase):
    def test_truth(self):
        for made in (formula(0), FM - FM, M * N - N * M, word(0), M - M, 0 * M):
            self.assertIs(bool(made), False)
        for made in (formula(1), formula(-5), FM, FM - FN, M, word(1), M * N):
            self.assertIs(bool(made), True)

    def test_repr(self):
        self.assertEqual([repr(made) for made in (formula(0), formula(9), FM, M * N, of_rank_16())],
                         ["Formula(0)", "Formula(1)", "Formula(2)", "Formula(4)", "Formula(16)"])


class Limits(unittest.TestCase):
    def test_three_names_and_four(self):
        three = M * N + K
        self.assertEqual((three + 1).names, ("k", "m", "n"))
        for act in (operator.add, operator.sub, operator.mul):
            for fourth in (P, formula(P)):
                raised(self, TooManyNames, act, three, fourth)
                raised(self, TooManyNames, act, fourth, three)
        raised(self, TooManyNames, operator.sub, FM + N, formula(K) + P)
        # Names on which nothing hangs do not count.
        self.assertEqual((three + (P - P)).names, ("k", "m", "n"))
        self.assertEqual((three - (M * N) + P).names, ("k", "p"))

    def test_a_rank_of_16_and_one_above_it(self):
        self.assertEqual(of_rank_16().rank, 16)
        self.assertEqual((of_rank_16() + M * N + 1).rank, 16)
        raised(self, TooMany, operator.add, of_rank_16(), K)
        raised(self, TooMany, operator.sub, of_rank_16(), formula(K))
        raised(self, TooMany, operator.mul, of_rank_16(), N)
        fifteen = M ** 3 * M ** 3 * M * (M ** 3 * M ** 3 * M) * M
        self.assertEqual(fifteen.rank, 16)
        raised(self, TooMany, operator.mul, fifteen, M)
        raised(self, TooMany, operator.add, fifteen, N)

    def test_a_product_of_ranks_of_64_and_above_it(self):
        seventh = M ** 3 * M ** 3 * M
        self.assertEqual(seventh.rank, 8)
        self.assertEqual((seventh * seventh).rank, 15)
        self.assertEqual((seventh ** 2).rank, 15)
        eighth = seventh * M
        self.assertEqual((eighth * (M ** 3 * M ** 3)).rank, 15)
        raised(self, TooMany, operator.mul, eighth, seventh)
        raised(self, TooMany, operator.mul, seventh, eighth)
        # A rank of 16 comes of 11 and 6 as well, but their product is 66.
        raised(self, TooMany, operator.mul, eighth * M * M, M ** 3 * M * M)
        self.assertEqual((of_rank_16() * 5).rank, 16)
        self.assertEqual((of_rank_16() * 0).rank, 0)

    def test_powers(self):
        seventh = M ** 3 * M ** 3 * M
        raised(self, TooMany, operator.pow, seventh * M, 2)
        raised(self, TooMany, operator.pow, seventh, 3)
        raised(self, TooMany, operator.pow, of_rank_16(), 2)
        raised(self, TooMany, operator.pow, M + N * K, 3)
        self.assertEqual(((M + N + K) ** 2).rank, 3)
        self.assertEqual(((M + N * K) ** 2).rank, 14)

    def test_exponents(self):
        for made in (FM, M, formula(0), of_rank_16()):
            for exponent in (-1, 4, 5, 10 ** 129, -10 ** 129):
                self.assertEqual(raised(self, InvalidNumber, operator.pow, made, exponent).number, exponent)
            for exponent in (True, False, None, "2", (2,)):
                self.assertRaises(TypeError, operator.pow, made, exponent)

    def test_names_are_looked_at_before_ranks(self):
        raised(self, TooManyNames, operator.mul, of_rank_16() + 1, formula(K) * P)
        raised(self, TooManyNames, operator.add, of_rank_16(), formula(K) + P)


class WrongPairs(unittest.TestCase):
    def check(self, pairs, index):
        for made in (FM, formula(7), FM * N, M, word(7), M & ~N):
            self.assertEqual(raised(self, InvalidValues, made.at, pairs).index, index)

    def test_no_tuple(self):
        for pairs in (None, True, 3, "m", [], [("m", 1)], {"m": 1}, {("m", 1): 1}, Other()):
            self.check(pairs, None)

    def test_an_element_that_is_not_right_at_each_place(self):
        right = (("a", 1), ("m", 2), ("n", 3))
        wrongs = [None, 5, "m", "mn", (), ("m",), ("m", 1, 2), ["m", 1], (1, "m"), ("", 1), ("M", 1), ("m1", 1),
                  ("abcdefghi", 1), ("m ", 1), (b"m", 1), (None, 1), (("m",), 1), ("m", -1), ("m", GREATEST + 1),
                  ("m", True), ("m", False), ("m", None), ("m", "1"), ("m", (1,)), (True, 1), ("\u00e4", 1)]
        for place in range(3):
            for wrong in wrongs:
                self.check(right[:place] + (wrong,) + right[place + 1:], place)
                self.check(right[:place] + (wrong,), place)
                self.check((*right[:place], wrong, None), place)

    def test_names_that_do_not_ascend(self):
        self.check((("m", 1), ("m", 1)), 1)
        self.check((("n", 1), ("m", 1)), 1)
        self.check((("a", 1), ("n", 1), ("m", 1), ("k", 1)), 2)
        self.check((("b", 1), ("ab", 1)), 1)
        self.assertEqual(FM.at((("ab", 1), ("b", 1), ("m", 4))), 4)

    def test_a_name_missing(self):
        made = M * N + K
        self.assertEqual(raised(self, WrongNames, made.at, ()).name, "k")
        self.assertEqual(raised(self, WrongNames, made.at, (("k", 1), ("n", 2))).name, "m")
        self.assertEqual(raised(self, WrongNames, made.at, (("a", 1), ("k", 1), ("m", 2))).name, "n")

    def test_pairs_are_looked_at_before_missing_names(self):
        self.assertEqual(raised(self, InvalidValues, FM.at, (("n", 1), ("z", -1))).index, 1)


class WrongKeywords(unittest.TestCase):
    def test_keywords_that_are_no_names(self):
        for keyword in ("M", "", "m1", "abcdefghi", "m ", " ", "\u00e4", "_m"):
            for made in (FM, formula(7), M | N, word(7)):
                self.assertEqual(raised(self, InvalidName, made.of, **{"m": 1, keyword: 1}).name, keyword)

    def test_values_that_are_no_numbers(self):
        for wrong in (-1, GREATEST + 1, True, False, None, "1", (1,), [1]):
            for made in (FM, formula(7), FM * N, M, word(7), M ^ N):
                number = raised(self, InvalidNumber, made.of, m=wrong).number
                self.assertIs(number, wrong)
                self.assertIs(raised(self, InvalidNumber, made.of, m=1, n=1, z=wrong).number, wrong)

    def test_a_name_missing(self):
        made = M * N + K
        self.assertEqual(raised(self, WrongNames, made.of).name, "k")
        self.assertEqual(raised(self, WrongNames, made.of, n=1, k=1).name, "m")
        self.assertEqual(raised(self, WrongNames, made.of, m=1, k=1, z=3).name, "n")

    def test_order(self):
        self.assertEqual(raised(self, InvalidName, FM.of, **{"a": -1, "b1": 2, "B": 3}).name, "B")
        self.assertEqual(raised(self, InvalidName, FM.of, **{"z1": 1, "a": None, "m": True}).name, "z1")
        self.assertEqual(raised(self, InvalidNumber, FM.of, z=-3, b=-2, c=-1).number, -2)
        self.assertEqual(raised(self, InvalidNumber, FM.of, n=1, z=-3).number, -3)


class NothingChanges(unittest.TestCase):
    def test_formulas_and_what_is_passed(self):
        one, other, word_beside = M * N - 3, formula(K) + 1, M + 2
        before = told(one), told(other), told(word_beside)
        pairs, numbers = (("k", 1), ("m", 4), ("n", 5)), {"n": 5, "m": 4, "k": 1}
        results = []
        for _ in range(2):
            results.append([
                told(one + other), told(one - other), told(one * other), told(-one), told(one ** 2),
                told(one + word_beside), told(word_beside * one), told(5 - one), told(formula(one)),
                one.at(pairs), one.of(**numbers), one == other, bool(one), repr(one), told(word_beside ** 3),
            ])
            raised(self, InvalidNumber, operator.pow, one, 4)
            raised(self, TooManyNames, operator.add, one + other, P)
            raised(self, WrongNames, one.at, ())
        self.assertEqual(results[0], results[1])
        self.assertEqual((told(one), told(other), told(word_beside)), before)
        self.assertEqual(pairs, (("k", 1), ("m", 4), ("n", 5)))
        self.assertEqual(list(numbers.items()), [("n", 5), ("m", 4), ("k", 1)])

    def test_properties_are_tuples_throughout(self):
        def check(value):
            if isinstance(value, tuple):
                for item in value:
                    check(item)
            else:
                self.assertIn(type(value), (int, str))
        for made in (formula(0), formula(3), M * N, FM + 1, M, M ** 3 - N):
            check(told(made))

    def test_in_place_signs_make_new_formulas(self):
        made = kept = FM * N
        made += 1
        made -= N
        made *= 2
        self.assertEqual(kept, FM * N)
        self.assertEqual(made, 2 * FM * N - 2 * N + 2)


class Properties(unittest.TestCase):
    def test_they_are_not_assigned(self):
        for name in ("names", "rank", "basis", "equations", "firsts"):
            for made in (FM, M):
                self.assertRaises(AttributeError, setattr, made, name, 1)


class Kinds(unittest.TestCase):
    def test_words_are_no_formulas(self):
        self.assertNotIsInstance(M, Formula)
        self.assertNotIsInstance(FM, Word)


if __name__ == "__main__":
    unittest.main()

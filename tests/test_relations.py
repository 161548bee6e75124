"""`parting`, `relations`, `new_tuples`: against trying all tuples, against values, by hand, and wrong arguments."""

import random
import unittest
from fractions import Fraction
from math import gcd

from bitcounts.counting import length, one_if, ones, raised as power
from bitcounts.errors import InvalidValues, NotAFormula, TooMany, TooManyNames
from bitcounts.relations import new_tuples, parting, relations
from bitcounts.words import formula, rests, same, var, word
from tests.brute import Span, all_points, ordered_points
from tests.support import Other, raised

M, N, K, P = var("m"), var("n"), var("k"), var("p")
GREATEST = 10 ** 100
OTHERS = [None, "m", "", (), (1,), [1], {"m": 1}, b"m", True, False, M < N, Other(), Other]
SOME = [
    M, N, M + N, M & N, M | N, M ^ N, M - N, 2 * M + 1, word(0), 5, formula(M), ones(M), ones(N), ones(M + N),
    length(M), one_if(M < N), M * N, M * M, M >> 1, -3 * N, ones(M & N), power(2, M), one_if(rests(M, 3, 1)), M & 6,
]
POINTS = all_points(2, 4)


def value(one, m, n):
    return one if isinstance(one, int) else one.of(m=m, n=n)


def names_of(things):
    return tuple(sorted({name for one in things if not isinstance(one, int) for name in one.names}))


def named_values(one, names, numbers):
    beside = {"m": 0, "n": 0, **dict(zip(names, numbers))}
    return value(one, beside["m"], beside["n"])


class Parting(unittest.TestCase):
    def test_the_least_tuple(self):
        for one in SOME:
            for other in SOME:
                names = names_of([one, other])
                found = parting(one, other)
                points = ordered_points(len(names), 4)
                least = next((point for point in points
                              if named_values(one, names, point) != named_values(other, names, point)), None)
                expected = None if least is None else tuple(zip(names, least))
                self.assertEqual(found, expected, (one, other))

    def test_by_hand(self):
        self.assertEqual(parting(M + N, M | N), (("m", 1), ("n", 1)))
        self.assertIsNone(parting(M + N, (M | N) + (M & N)))
        self.assertEqual(parting(3, 4), ())
        self.assertIsNone(parting(GREATEST, GREATEST))
        self.assertEqual(parting(GREATEST ** 3, 0), ())
        self.assertEqual(parting(M, 0), (("m", 1),))
        self.assertEqual(parting(M & 1023, M), (("m", 1024),))
        self.assertEqual(parting(P - P + M, N), (("m", 0), ("n", 1)))
        self.assertEqual(parting(f=M, g=ones(M)), (("m", 2),))

    def test_ranks_up_to_16(self):
        great = M & 2 ** 14
        self.assertEqual(parting(great, 0), (("m", 2 ** 14),))
        self.assertEqual(great.rank, 16)
        self.assertEqual(parting(great, N & 2 ** 14), (("m", 0), ("n", 2 ** 14)))

    def test_too_many_names(self):
        raised(self, TooManyNames, parting, M + N, K + P)
        self.assertEqual(parting(M + N + K, K), (("k", 0), ("m", 0), ("n", 1)))

    def test_wrong_values(self):
        for wrong in OTHERS:
            self.assertIs(raised(self, NotAFormula, parting, wrong, None).value, wrong)
            self.assertIs(raised(self, NotAFormula, parting, M, wrong).value, wrong)


class Relations(unittest.TestCase):
    def check(self, things):
        rows = relations(*things)
        columns = [[value(one, m, n) for m, n in POINTS] for one in things]
        span, heads, expected = Span(), [], []
        for at, column in enumerate(columns):
            if span.add(column):
                heads.append(at)
                continue
            factors = span.combination(column)
            row = [Fraction(0)] * len(things)
            for head, factor in zip(heads, factors):
                row[head] = -factor
            row[at] = Fraction(1)
            common = 1
            for factor in row:
                common = common * factor.denominator // gcd(common, factor.denominator)
            expected.append(tuple(int(factor * common) for factor in row))
        self.assertEqual(rows, tuple(expected))
        for row in rows:
            self.assertTrue(all(type(factor) is int for factor in row))
            self.assertEqual(gcd(*row), 1)

    def test_drawn_ones(self):
        chance = random.Random(4)
        done = 0
        for _ in range(60):
            things = [chance.choice(SOME) for _ in range(chance.randint(1, 6))]
            try:
                self.check(things)
                done += 1
            except TooMany:
                self.assertGreater(sum(1 if isinstance(one, int) else one.rank for one in things), 64)
        self.assertGreater(done, 40)

    def test_sums_of_the_others(self):
        chance = random.Random(5)
        for _ in range(25):
            things = [chance.choice(SOME[:14]) for _ in range(3)]
            made = sum((chance.randint(-3, 3) * formula(one) for one in things), formula(0))
            self.check([*things, made, 6 * formula(M)])

    def test_by_hand(self):
        self.assertEqual(relations(M & N, M | N, M, N), ((-1, -1, 1, 1),))
        self.assertEqual(relations(M), ())
        self.assertEqual(relations(0), ((1,),))
        self.assertEqual(relations(M, M, M), ((-1, 1, 0), (-1, 0, 1)))
        self.assertEqual(relations(2, 3, 0), ((-3, 2, 0), (0, 0, 1)))
        self.assertEqual(relations(-2, 3), ((3, 2),))
        self.assertEqual(relations(4 * M, 6 * M), ((-3, 2),))
        self.assertEqual(relations(M, 1, 3 * M - 6), ((-3, 6, 1),))
        self.assertEqual(relations(10 ** 120, 10 ** 119), ((-1, 10),))
        self.assertEqual(relations(ones(M), ones(N), ones(M ^ N), ones(M & N)), ((-1, -1, 1, 2),))
        self.assertEqual(relations(0, M, 0, M), ((1, 0, 0, 0), (0, 0, 1, 0), (0, -1, 0, 1)))

    def test_the_number_of_formulas(self):
        self.assertIsNone(raised(self, InvalidValues, relations).index)
        self.assertIsNone(raised(self, InvalidValues, relations, *[None] * 7).index)
        self.assertEqual(len(relations(M, M, M, M, M, M)), 5)

    def test_wrong_values(self):
        for act in (relations, new_tuples):
            for wrong in OTHERS:
                self.assertIs(raised(self, NotAFormula, act, wrong).value, wrong)
                self.assertIs(raised(self, NotAFormula, act, M, K + P, N, wrong, None, 1.0).value, wrong)

    def test_limits(self):
        great = [M & 2 ** (14 - at) for at in range(4)]
        for act in (relations, new_tuples):
            raised(self, TooManyNames, act, M, N, K, P)
            raised(self, TooManyNames, act, M & 2 ** 14, M & 2 ** 14, M & 2 ** 14, M & 2 ** 14, N + K, P)
            self.assertEqual([one.rank for one in great], [16, 15, 14, 13])
            raised(self, TooMany, act, great[0], great[0], great[0], great[0], 1)
            raised(self, TooMany, act, great[0], great[0], great[0], great[1], M)
        # 64 together.
        self.assertEqual(relations(great[0], great[0], great[0], great[0]),
                         ((-1, 1, 0, 0), (-1, 0, 1, 0), (-1, 0, 0, 1)))
        self.assertEqual(relations(great[0], 0, great[0], great[0], great[0]),
                         ((0, 1, 0, 0, 0), (-1, 0, 1, 0, 0), (-1, 0, 0, 1, 0), (-1, 0, 0, 0, 1)))


class NewTuples(unittest.TestCase):
    def check(self, things):
        found = new_tuples(*things)
        names = names_of(things)
        self.assertTrue(all(len(numbers) == len(names) for numbers in found))
        # The values of all parts with up to three places that the things have at the tuples.
        labels = [(level, label) for level in range(4) for label in all_points(len(names), level)]
        span, expected = Span(), []
        for point in ordered_points(len(names), 3):
            values = [named_values(one, names, tuple((at << level) + low for at, low in zip(point, label)))
                      for one in things for level, label in labels]
            if span.add(values):
                expected.append(point)
        self.assertEqual([numbers for numbers in found if max(numbers, default=0) < 8], expected)
        for numbers in found:
            self.assertIn(tuple(number >> 1 for number in numbers), found)
        return found

    def test_each_alone(self):
        for one in SOME:
            self.assertEqual(len(self.check([one])), 1 if one == 5 else one.rank)

    def test_some_together(self):
        chance = random.Random(6)
        for _ in range(12):
            self.check([chance.choice(SOME[:20]) for _ in range(chance.randint(2, 4))])

    def test_by_hand(self):
        self.assertEqual(new_tuples(M + N), ((0, 0), (0, 1)))
        self.assertEqual(new_tuples(0), ())
        self.assertEqual(new_tuples(0, word(0), M - M), ())
        self.assertEqual(new_tuples(7), ((),))
        self.assertEqual(new_tuples(M), ((0,), (1,)))
        self.assertEqual(new_tuples(M, N), ((0, 0), (0, 1), (1, 0)))
        self.assertEqual(new_tuples(M * M), ((0,), (1,), (2,)))
        self.assertEqual(new_tuples(one_if(M < 4)), ((0,), (1,), (2,)))
        self.assertEqual(new_tuples(M, M, 2 * M), ((0,), (1,)))

    def test_all_parts_vanish_nowhere_else(self):
        # A formula of the same lines that is 0 at all new tuples is 0 everywhere.
        for one, other in ((M + N, (M ^ N) + 2 * (M & N)), (ones(M) + ones(N), ones(M ^ N) + 2 * ones(M & N))):
            for m, n in new_tuples(one, other):
                self.assertEqual(one.of(m=m, n=n), other.of(m=m, n=n))
            self.assertEqual(one, other)

    def test_parting_is_new(self):
        for one in SOME:
            for other in SOME:
                found = parting(one, other)
                if found is not None:
                    self.assertIn(tuple(number for _, number in found), new_tuples(one, other))

    def test_the_number_of_formulas(self):
        self.assertIsNone(raised(self, InvalidValues, new_tuples).index)
        self.assertIsNone(raised(self, InvalidValues, new_tuples, *[M] * 7).index)

    def test_equal_things(self):
        self.assertEqual(new_tuples(one_if(same(M, N)) * M), new_tuples(one_if(same(N, M)) * N))
        self.assertEqual(new_tuples(M + N, M & N), new_tuples((M | N) + (M & N), M & N))


if __name__ == "__main__":
    unittest.main()

"""Tests: what they are joined to, compared with, asked for; their names, classes and least numbers."""

import operator
import random
import unittest

from bitcounts.conditions import Test, always
from bitcounts.errors import InvalidName, InvalidNumber, InvalidValues, TooManyClasses, TooManyNames, WrongNames
from bitcounts.words import formula, rests, same, var
from tests.brute import all_points, classes, least_holding
from tests.support import Other, raised

M, N, K, P = var("m"), var("n"), var("k"), var("p")
GREATEST = 10 ** 100
JOINS = {"&": operator.and_, "|": operator.or_, "^": operator.xor}
OTHERS = [True, False, None, 0, 1, "m", "", (), (1,), [1], {"m": 1}, b"m", Other(), Other, M, formula(M)]
NEVER = ~always()

# Tests with what they say of m and n.
SOME = [
    (M < N, lambda m, n: m < n), (same(M & N, 0), lambda m, n: m & n == 0), (M < 5, lambda m, n: m < 5),
    (rests(M + N, 3, 1), lambda m, n: (m + n) % 3 == 1), (same(M, 2 * N), lambda m, n: m == 2 * n),
    (N >= M + 3, lambda m, n: n >= m + 3), (same(N & 3, 2), lambda m, n: n & 3 == 2), (always(), lambda m, n: True),
    (~always(), lambda m, n: False), (same(M ^ N, 6), lambda m, n: m ^ n == 6), (N > 9, lambda m, n: n > 9),
]


def told(test):
    return test.names, test.classes, test.least, test.is_finite


class Joining(unittest.TestCase):
    def test_two_tests(self):
        chance = random.Random(1)
        great = [(chance.randrange(GREATEST), chance.randrange(GREATEST)) for _ in range(5)]
        for one, holds in SOME:
            for other, holds_beside in SOME:
                for act in JOINS.values():
                    made = act(one, other)
                    self.assertIs(type(made), Test)
                    for m, n in [*all_points(2, 4), *great]:
                        self.assertIs(made.of(m=m, n=n), act(holds(m, n), holds_beside(m, n)))

    def test_the_opposite(self):
        for one, holds in SOME:
            made = ~one
            self.assertIs(type(made), Test)
            for m, n in all_points(2, 4):
                self.assertIs(made.of(m=m, n=n), not holds(m, n))
            self.assertEqual((made.names, made.classes), (one.names, one.classes))
            self.assertEqual(~made, one)

    def test_ways_to_the_same_test(self):
        for one, _ in SOME:
            for other, _ in SOME:
                self.assertEqual(one & other, other & one)
                self.assertEqual(one | other, ~(~one & ~other))
                self.assertEqual(one ^ other, (one | other) & ~(one & other))
                self.assertEqual(told(one ^ other), told((one & ~other) | (other & ~one)))
            self.assertEqual(one & one, one)
            self.assertEqual(one | ~one, always())
            self.assertEqual(one ^ one, NEVER)
            self.assertEqual(one & always(), one)
            self.assertEqual(one | NEVER, one)

    def test_three_names(self):
        made = (K < M) & (M < N) | same(K, N)
        for k, m, n in all_points(3, 3):
            self.assertIs(made.of(k=k, m=m, n=n), k < m < n or k == n)
        self.assertEqual(made.names, ("k", "m", "n"))
        self.assertEqual((made ^ same(K, N)), (K < M) & (M < N))

    def test_names_that_drop_out(self):
        self.assertEqual(((M < 5) | (N < M) | (N >= M)).names, ())
        self.assertEqual(((M < 5) & ((N < M) | (N >= M))).names, ("m",))
        self.assertEqual(((M < N) ^ (M >= N)).names, ())
        self.assertEqual(((M < N) | (M < K) & (K <= N)).names, ("m", "n"))
        self.assertEqual(((K < M) & (M < N) & (N < K)).names, ())
        self.assertEqual((same(M, 3) & (N < M)).names, ("m", "n"))
        self.assertEqual(((M < N) & (K < P - P + 4)).names, ("k", "m", "n"))
        self.assertEqual((rests(K, 3, 0) ^ rests(K, 3, 1) ^ rests(K, 3, 2) ^ (M < 1)).names, ("m",))

    def test_other_operands(self):
        for other in OTHERS:
            for act in [*JOINS.values(), operator.le]:
                self.assertRaises(TypeError, act, M < N, other)
                self.assertRaises(TypeError, act, other, M < N)
                self.assertRaises(TypeError, act, always(), other)

    def test_operators_that_tests_do_not_have(self):
        for act in (operator.add, operator.sub, operator.mul, operator.lt, operator.gt, operator.lshift, operator.pow):
            self.assertRaises(TypeError, act, M < N, N < M)
        for act in (operator.neg, operator.pos, abs, len, int, iter):
            self.assertRaises(TypeError, act, M < N)


class Comparing(unittest.TestCase):
    def test_within(self):
        for one, holds in SOME:
            for other, holds_beside in SOME:
                expected = all(holds_beside(m, n) or not holds(m, n) for m, n in all_points(2, 5))
                self.assertIs(one <= other, expected)
                self.assertIs(one <= other, one & ~other == NEVER)
                self.assertIs(one == other, one <= other and other <= one)
                self.assertIs(one != other, not one == other)

    def test_great_numbers_at_which_they_part(self):
        self.assertIs((M < 10 ** 6) <= (M < 10 ** 6 - 1), False)
        self.assertIs((M < 10 ** 6 - 1) <= (M < 10 ** 6), True)
        self.assertIs(same(M, 10 ** 6) <= (M < 10 ** 6), False)
        self.assertIs(same(M, 10 ** 6) == same(M, 10 ** 6 - 1), False)
        self.assertIs(same(M & 4095, 2730) <= (M >= 2730), True)
        self.assertIs(same(M & 4095, 2730) <= (M >= 2731), False)
        self.assertIs((M + N > 2 * K) <= (M > K) | (N > K), True)
        self.assertIs((M + N >= 2 * K) <= (M > K) | (N > K), False)

    def test_never_and_always(self):
        for one, _ in SOME:
            self.assertIs(NEVER <= one, True)
            self.assertIs(one <= always(), True)
            self.assertIs(one <= NEVER, not one)
            self.assertIs(one <= one, True)

    def test_equality_with_other_things(self):
        for other in [*OTHERS, told(M < N)]:
            for one in (M < N, always(), NEVER):
                self.assertIs(one == other, False)
                self.assertIs(other == one, False)
                self.assertIs(one != other, True)
        self.assertIs((M < N) == (N < M), False)
        self.assertIs((M < N) == (M < K), False)
        self.assertIs((M < N) == (M <= N), False)
        self.assertIs(same(M, 3) == same(N, 3), False)
        self.assertIs(always() == NEVER, False)

    def test_truth(self):
        for one in (M < N, M < 1, same(M, 10 ** 6), always(), M >= 0, same(M & N, 10 ** 6)):
            self.assertIs(bool(one), True)
        for one in (NEVER, M < 0, (M < N) & (N < M), same(M & 1, 2), same(M, N) & same(M, N + 1), N < -10 ** 6):
            self.assertIs(bool(one), False)

    def test_repr(self):
        self.assertEqual([repr(one) for one in (M < N, always(), NEVER, M < 5, rests(M, 11, 3), same(M, 8))],
                         ["Test(2)", "Test(1)", "Test(1)", "Test(5)", "Test(11)", "Test(6)"])


class Classes(unittest.TestCase):
    def test_by_hand(self):
        self.assertEqual((always().names, always().classes), ((), 1))
        self.assertEqual((NEVER.names, NEVER.classes), ((), 1))
        # m < n or m <= n, by each of two pairs of variables.
        self.assertEqual(((K < M) & (M < N)).classes, 4)
        self.assertEqual((rests(M, 3, 0) & rests(M, 5, 0)).classes, 15)
        self.assertEqual((rests(M, 3, 0) & rests(N, 5, 0)).classes, 15)
        # m at 3 or 4, at 2, 1, 0, never.
        self.assertEqual((same(M, 3) | same(M, 4)).classes, 5)
        self.assertEqual((same(M & 1, 1) & (N < M)).classes, 4)

    def test_by_brute(self):
        points = all_points(2, 5)
        acts = list(JOINS.values())
        for at, (one, holds) in enumerate(SOME):
            for place, (other, holds_beside) in enumerate(SOME):
                act = acts[(at + place) % 3]
                made = act(one, other)

                def function(m, n):
                    return act(holds(m, n), holds_beside(m, n))
                if made.names == ("m", "n"):
                    self.assertEqual(made.classes, classes(function, 2, points))


class Least(unittest.TestCase):
    def test_by_brute(self):
        for one, holds in SOME:
            for other, holds_beside in SOME:
                for act in JOINS.values():
                    made = act(one, other)

                    def function(*numbers):
                        given = dict(zip(made.names, numbers))
                        m, n = given.get("m", 0), given.get("n", 0)
                        return act(holds(m, n), holds_beside(m, n))
                    least = least_holding(function, len(made.names), 5)
                    self.assertEqual(made.least, None if least is None else tuple(zip(made.names, least)))

    def test_three_names_by_brute(self):
        chance = random.Random(4)
        for _ in range(40):
            a, b, c, d = [chance.randint(-3, 3) for _ in range(4)]
            made = same(a * K + b * M + c * N, d) & (K | M | N > 2)

            def function(*numbers):
                given = {"k": 0, "m": 0, "n": 0, **dict(zip(made.names, numbers))}
                k, m, n = given["k"], given["m"], given["n"]
                return a * k + b * m + c * n == d and k | m | n > 2
            least = least_holding(function, len(made.names), 4)
            if least is not None or not made:
                self.assertEqual(made.least, None if least is None else tuple(zip(made.names, least)))

    def test_the_order_of_tuples(self):
        # The number of digits of the greatest one comes first, then the first number.
        self.assertEqual((M + N > 6).least, (("m", 0), ("n", 7)))
        self.assertEqual((M + N > 7).least, (("m", 1), ("n", 7)))
        self.assertEqual(((M > 3) | (N > 2) & (M > 0)).least, (("m", 1), ("n", 3)))
        self.assertEqual(((M > 8) | (N > 7) & (M > 2)).least, (("m", 3), ("n", 8)))
        self.assertEqual((M + N + K > 20).least, (("k", 7), ("m", 7), ("n", 7)))
        self.assertEqual((M + N + K > 21).least, (("k", 0), ("m", 7), ("n", 15)))
        self.assertEqual((N > 2 * M + 5).least, (("m", 0), ("n", 6)))
        self.assertEqual((M > 2 * N + 5).least, (("m", 6), ("n", 0)))
        self.assertEqual(same(M + N, 9).least, (("m", 2), ("n", 7)))

    def test_great_numbers(self):
        self.assertEqual(same(M, 10 ** 6).least, (("m", 10 ** 6),))
        self.assertEqual((M > 10 ** 6).least, (("m", 10 ** 6 + 1),))
        self.assertEqual(same(M & N, 10 ** 6).least, (("m", 10 ** 6), ("n", 10 ** 6)))
        self.assertEqual((same(3 * M, 10 ** 6 - 1) & (N > M)).least, (("m", 333333), ("n", 333334)))
        self.assertEqual((rests(M, 11, 10) & rests(M, 9, 8) & rests(M, 2, 1)).least, (("m", 197),))
        self.assertEqual((same(N, 8 * M) & (M > 1000)).least, (("m", 1001), ("n", 8008)))

    def test_none_and_everywhere(self):
        for one in (NEVER, M < 0, (M < N) & (N < K) & (K < M), same(2 * M + 1, 2 * N)):
            self.assertIsNone(one.least)
        for one in (always(), M >= 0, (M < N) | (M >= N), (M & N) <= M):
            self.assertEqual(one.least, ())


class Finite(unittest.TestCase):
    def test_by_hand(self):
        for one in (NEVER, always(), M < 5, M < 0, M >= 0, same(M, 10 ** 6), (M < N) & (N < 7), same(M + N, 12),
                    same(M | N, 12), (M < 3) & (N < 3), (M < N) & (N < M), same(K + M + 2 * N, 9),
                    same(3 * M, N) & (N < M + 100), same(M >> 4, 3), (M >> 3) < 2):
            self.assertIs(one.is_finite, True)
        for one in (M < N, M > 5, same(M, N), same(M & N, 12), rests(M, 7, 3), (M < 5) | (N > 3), same(M & 1, 1),
                    (M < 3) | (N < 3), M < N + 1, ~same(M, 4), same(M - N, 12), same(K + M - N, 9),
                    (M < 5) & (N > M), same(N, M << 6), (M >> 3) > 2):
            self.assertIs(one.is_finite, False)

    def test_the_opposite_is_finite_too_only_without_names(self):
        for one, _ in SOME:
            if one.names:
                self.assertFalse(one.is_finite and (~one).is_finite)
            else:
                self.assertTrue(one.is_finite and (~one).is_finite)


class Asking(unittest.TestCase):
    def test_values_by_pairs_and_by_name(self):
        made = same(M & N, 0)
        for m, n in all_points(2, 3):
            self.assertIs(made.holds((("m", m), ("n", n))), m & n == 0)
            self.assertIs(made.holds(pairs=(("m", m), ("n", n))), m & n == 0)
            self.assertIs(made.of(n=n, m=m), m & n == 0)
        self.assertIs(made.holds((("a", 1), ("m", 1), ("n", 2), ("z", 3))), True)
        self.assertIs(made.of(z=1, n=2, m=3, a=0), False)
        self.assertIs(made.of(m=GREATEST, n=GREATEST), False)
        self.assertIs(always().of(), True)
        self.assertIs(always().holds(()), True)
        self.assertIs(NEVER.of(m=3), False)
        self.assertIs((var("self") < 3).holds((("self", 2),)), True)
        self.assertIs((var("pairs") < 3).of(pairs=2), True)
        self.assertEqual(raised(self, WrongNames, (var("self") < 3).of).name, "self")

    def test_wrong_pairs(self):
        for one in (M < N, always(), M < 5):
            for pairs in (None, True, 3, "m", [], [("m", 1)], {"m": 1}):
                self.assertIsNone(raised(self, InvalidValues, one.holds, pairs).index)
            right = (("a", 1), ("m", 2), ("n", 3))
            for wrong in (None, "mn", ["m", 1], ("m",), ("m", 1, 2), (1, "m"), ("M", 1), ("abcdefghi", 1), ("m", -1),
                          ("m", GREATEST + 1), ("m", True), ("m", "1"), ("m", None)):
                for place in range(3):
                    pairs = right[:place] + (wrong,) + right[place + 1:]
                    self.assertEqual(raised(self, InvalidValues, one.holds, pairs).index, place)
            self.assertEqual(raised(self, InvalidValues, one.holds, (("m", 1), ("m", 1))).index, 1)
            self.assertEqual(raised(self, InvalidValues, one.holds, (("k", 1), ("n", 1), ("m", 1))).index, 2)
        self.assertEqual(raised(self, WrongNames, (M < N).holds, (("n", 1),)).name, "m")
        self.assertEqual(raised(self, WrongNames, (M < N).holds, (("m", 1), ("z", 1))).name, "n")
        self.assertEqual(raised(self, InvalidValues, (M < N).holds, (("n", -1),)).index, 0)

    def test_wrong_keywords(self):
        for keyword in ("M", "", "m1", "abcdefghi", "m "):
            for one in (M < N, always()):
                self.assertEqual(raised(self, InvalidName, one.of, **{"m": -1, keyword: 1}).name, keyword)
        for wrong in (-1, GREATEST + 1, True, False, None, "1", (1,)):
            self.assertIs(raised(self, InvalidNumber, (M < N).of, m=wrong).number, wrong)
            self.assertIs(raised(self, InvalidNumber, always().of, m=1, z=wrong).number, wrong)
        self.assertEqual(raised(self, InvalidName, (M < N).of, **{"z1": 1, "B": 2, "a": -1}).name, "B")
        self.assertEqual(raised(self, InvalidNumber, (M < N).of, z=-3, b=-2).number, -2)
        self.assertEqual(raised(self, WrongNames, (M < N).of, n=1).name, "m")
        self.assertEqual(raised(self, WrongNames, (M < N).of, m=1, k=1).name, "n")


class Limits(unittest.TestCase):
    def test_three_names_and_four(self):
        three = (K < M) & (M < N)
        for act in [*JOINS.values(), operator.le]:
            raised(self, TooManyNames, act, three, P < 3)
            raised(self, TooManyNames, act, P < 3, three)
            raised(self, TooManyNames, act, K < M, N < P)
        self.assertEqual((three & (P >= 0)).names, ("k", "m", "n"))
        self.assertIs(three <= (P >= 0), True)
        # They are looked at before classes.
        raised(self, TooManyNames, operator.and_, self.of_many(K, 3) & (M < 9), self.of_many(N, 3) & (P < 9))

    @staticmethod
    def of_many(one, shift):
        """A test of one variable whose classes keep its last digits in mind: twice as many for each place."""
        return (one ^ (one >> shift)) < one

    def test_256_classes_and_more(self):
        great = (M << 8) - M < N
        self.assertEqual((great & great).classes, 256)
        self.assertEqual((great | NEVER).classes, 256)
        self.assertEqual((great ^ always()).classes, 256)
        raised(self, TooManyClasses, operator.and_, great, same(K & 1, 0))
        raised(self, TooManyClasses, operator.or_, great, N < 9)
        raised(self, TooManyClasses, operator.xor, great, rests(M, 3, 1))
        sixteen = self.of_many(M, 3)
        self.assertEqual(sixteen.classes, 16)
        self.assertEqual((sixteen ^ self.of_many(N, 3)).classes, 256)
        raised(self, TooManyClasses, operator.and_, sixteen, self.of_many(N, 4))

    def test_4096_pairs_of_classes_and_more(self):
        def halves(one, other, switch):
            """Two tests that never hold together, with all pairs of classes of three tests of a variable each."""
            return one & switch, other & ~switch
        sixteens = [self.of_many(one, 3) for one in (M, N, K)]
        left, right = halves(*sixteens)
        self.assertEqual((left.classes, right.classes), (256, 256))
        self.assertEqual(left & right, NEVER)
        odd = rests(M, 3, 1) & rests(M, 7, 2), rests(N, 3, 1) & rests(N, 7, 2), rests(K, 9, 4)
        left, right = halves(*odd)
        self.assertEqual((left.classes, right.classes), (189, 189))
        self.assertEqual(left & right, NEVER)
        left, right = halves(rests(M, 3, 1) & rests(M, 5, 2), rests(N, 3, 1) & rests(N, 11, 2),
                             rests(K, 7, 4))
        self.assertEqual((left.classes, right.classes), (105, 231))
        self.assertEqual(left & right, NEVER)
        left, right = halves(rests(M, 3, 1) & rests(M, 7, 2), rests(N, 3, 1) & rests(N, 11, 2), rests(K, 7, 4))
        self.assertEqual((left.classes, right.classes), (147, 231))
        for act in JOINS.values():
            raised(self, TooManyClasses, act, left, right)
            raised(self, TooManyClasses, act, right, left)
        # Only the first three tell of classes.
        self.assertIs(left <= ~right, True)
        self.assertIs(right <= ~left, True)
        self.assertIs(left <= right, False)

    def test_within_with_all_pairs_of_classes(self):
        left, right = [rests(one, 11, 3) & rests(one, 9, 4) for one in (M, N)]
        self.assertIs(left & (K < 9) <= right | (K < 9), True)
        self.assertIs(((M << 8) - M < N) <= ((M << 8) - M <= N), True)
        great, other = ((M << 8) - M < N), ((M << 8) - M < K)
        self.assertEqual((great.classes, other.classes), (256, 256))
        self.assertIs(great <= other, False)
        self.assertIs(great <= great, True)


class NothingChanges(unittest.TestCase):
    def test_tests_and_what_is_passed(self):
        one, other = (M < N) & same(M & 3, 1), rests(K, 3, 1) | (K < M)
        before = told(one), told(other)
        pairs, numbers = (("k", 1), ("m", 4), ("n", 5)), {"n": 5, "m": 4, "k": 1}
        results = []
        for _ in range(2):
            results.append([told(act(one, other)) for act in JOINS.values()] + [
                told(~one), one <= other, one == other, bool(one), repr(other), one.holds(pairs), other.of(**numbers)])
            raised(self, TooManyNames, operator.and_, one & other, P < 1)
            raised(self, WrongNames, one.holds, ())
        self.assertEqual(results[0], results[1])
        self.assertEqual((told(one), told(other)), before)
        self.assertEqual(pairs, (("k", 1), ("m", 4), ("n", 5)))
        self.assertEqual(list(numbers.items()), [("n", 5), ("m", 4), ("k", 1)])

    def test_in_place_signs_make_new_tests(self):
        made = kept = M < N
        made &= same(M, 3)
        made |= M < 1
        made ^= N < M
        self.assertEqual(kept, M < N)
        self.assertEqual(made, ((M < N) & same(M, 3) | (M < 1)) ^ (N < M))

    def test_properties_are_not_assigned(self):
        for name in ("names", "classes", "least", "is_finite"):
            self.assertRaises(AttributeError, setattr, M < N, name, 1)


if __name__ == "__main__":
    unittest.main()

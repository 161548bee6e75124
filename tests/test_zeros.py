"""That sums over ranges, products and what is counted are the same is seen in several ways; none of them errs."""

import random
import unittest

from bitcounts.conditions import always
from bitcounts.counting import length, one_if, ones, raised as power
from bitcounts.errors import LimitError, WrongNames
from bitcounts.piles import piled
from bitcounts.relations import parting
from bitcounts.rules import same_rules
from bitcounts.totals import count, total
from bitcounts.words import formula, rests, same, var, word
from bitcounts.zeros import is_zero_by_marks, sums_of
from tests.drawn import drawn_formula, drawn_word
from tests.support import raised

M, N, P = var("m"), var("n"), var("p")
ORDERS = [lambda u, v: u < v, lambda u, v: u >= v, same]


def drawn_test(chance):
    if chance.random() < 0.25:
        modulus = chance.randrange(2, 6)
        return rests(drawn_word(chance)[0], modulus, chance.randrange(modulus))
    while True:
        try:
            return chance.choice(ORDERS)(drawn_word(chance)[0], drawn_word(chance)[0])
        except LimitError:
            continue


def allowed(*acts):
    """What the acts return, None if one meets a limit."""
    try:
        return [act() for act in acts]
    except LimitError:
        return None


class Same(unittest.TestCase):
    def equal(self, one, other):
        self.assertIs(one == other, True)
        self.assertIs(one != other, False)
        self.assertIs(same_rules(one.rule, other.rule), True)
        self.assertIsNone(parting(one, other))

    def test_sums_of_sums(self):
        chance = random.Random(71)
        done = 0
        for _ in range(60):
            (u, _), (v, _) = drawn_word(chance), drawn_word(chance)
            b = chance.choice([N, N + 1, N >> 1, P, word(4), N - 2])
            made = allowed(lambda: total(u + v, "m", b), lambda: total(u, "m", b) + total(v, "m", b),
                           lambda: total(7 * u, "m", b), lambda: 7 * total(u, "m", b))
            if made is not None:
                done += 1
                self.equal(made[0], made[1])
                self.equal(made[2], made[3])
                self.assertEqual(made[0] == made[2], same_rules(made[0].rule, made[2].rule))
        self.assertGreater(done, 30)

    def test_counts(self):
        chance = random.Random(72)
        done = 0
        for _ in range(60):
            t, s = drawn_test(chance), drawn_test(chance)
            b = chance.choice([N, N + 1, N >> 1, P, word(4)])
            made = allowed(lambda: count(t, "m", b), lambda: count(s, "m", b), lambda: count(t & s, "m", b),
                           lambda: count(t | s, "m", b), lambda: count(t ^ s, "m", b), lambda: count(~t, "m", b),
                           lambda: total(one_if(t) * one_if(s), "m", b), lambda: count(t & ~s, "m", b))
            if made is not None and allowed(lambda: made[3] + made[2], lambda: made[0] + made[1]) is not None:
                done += 1
                self.equal(made[2] + made[3], made[0] + made[1])
                self.equal(made[4], made[3] - made[2])
                self.equal(made[5] + made[0], total(1, "m", b))
                self.equal(made[6], made[2])
                self.equal(made[7], made[0] - made[2])
                self.assertEqual(made[0] == made[1], same_rules(made[0].rule, made[1].rule))
        self.assertGreater(done, 20)

    def test_orders_of_sums(self):
        for u in (M + N, M & N, 3 * M - 2, M ^ N, N | 1, formula(M) * N):
            self.equal(total(total(u, "m", P), "n", P), total(total(u, "n", P), "m", P))
            self.equal(total(total(u, "m", P + 1), "n", P), total(total(u, "n", P), "m", P + 1))
        self.equal(total(total(M * N, "m", P), "n", P + 1), total(total(M, "m", P), "q", 1) * total(N, "n", P + 1))
        one, other = total(total(M, "m", N), "n", P), total(total(M, "m", P), "n", P)
        self.assertNotEqual(one, other)
        self.assertNotEqual(total(total(M - 2 * N, "m", P), "n", P), total(total(M - 2 * N, "n", P), "m", P + 1))

    def test_names_that_stand_for_two_things(self):
        # The variable m of the bound is not the m that is added up within.
        one = total(total(N, "m", N), "n", M)
        self.assertEqual([one.of(m=m) for m in range(6)], [sum(n * n for n in range(m)) for m in range(6)])
        other = total(total(M * N, "m", P), "n", M)
        self.assertEqual(other.names, ("m", "p"))
        for m in range(5):
            for p in range(5):
                expected = sum(k * n for n in range(m) for k in range(p))
                self.assertEqual(other.of(m=m, p=p), expected)
        raised(self, WrongNames, total, total(N, "n", P), "m", M)
        again = total(total(M, "m", N), "m", P)
        self.assertEqual([again.of(n=4, p=p) for p in range(4)], [0, 6, 12, 18])
        self.equal(again, total(M, "m", N) * P)
        self.equal(total(total(M, "m", N), "m", P), total(total(M, "m", N), "p", var("q")) * 0 + P * total(M, "m", N))

    def test_closed_forms(self):
        self.equal(total(M * M, "m", N) * 6, formula(N) * (N - 1) * (2 * N - 1))
        self.equal(total(N * P, "m", P), N * P * P)
        for k in range(1, 4):
            self.equal(count(rests(M, 2 ** k, 0), "m", N), (N >> k) + one_if((N & 2 ** k - 1) > 0))
            self.equal(count(rests(M, 2 ** k, 1), "m", N), (N >> k) + one_if((N & 2 ** k - 1) > 1))
        for k in range(3):
            self.equal(count(same(M >> k, N), "m", (N + 1) << k), formula(2 ** k))
        self.equal(total(ones(M), "m", N) + total(length(M), "m", N), total(length(M) + ones(M), "m", N))


class Unlike(unittest.TestCase):
    def test_where_samples_do_not_tell(self):
        for one, other in ((one_if(same(M, 9)), formula(0)), (one_if(same(M, 100)) + N, formula(N)),
                           (count(same(M, 40), "m", N), formula(0)), (count(M < 30, "m", N), total(1, "m", N)),
                           (formula(M - 5) * (M - 12), formula(0)), (total(M & 64, "m", N), formula(0)),
                           (count((M < N) | same(M, 9), "m", P), count(M < N, "m", P)),
                           (formula(M) * one_if(M < 77), formula(M)), (one_if(rests(M, 4, 2)), formula(0))):
            self.assertIs(one == other, False)
            self.assertIs(other == one, False)
            self.assertIs(bool(one - other), True)
            self.assertIsNotNone(parting(one, other))

    def test_summands_that_differ_where_nothing_is_added_up(self):
        one, other = total(M & N, "m", 1), total(0 * M, "m", 1)
        self.assertIs(one == other, True)
        self.assertIs(count(M < 5, "m", 3) == total(1, "m", 3), True)
        self.assertIs(count(M < N, "m", N) == count(always(), "m", N), True)
        self.assertIs(total(M * one_if(M >= N), "m", N) == formula(0), True)
        self.assertIs(count(same(M, N), "m", N) == count(same(M, N + 3), "m", N), True)

    def test_drawn_formulas(self):
        chance = random.Random(73)
        seen = {True: 0, False: 0}
        for _ in range(150):
            (one, _), (other, _) = drawn_formula(chance), drawn_formula(chance)
            made = allowed(lambda: (one + other) * one_if(M < N), lambda: one * one_if(M < N) + other * one_if(M < N),
                           lambda: one * one_if(M < N) + other)
            if made is not None:
                self.assertIs(made[0] == made[1], True)
                equal = made[0] == made[2]
                self.assertEqual(equal, same_rules(made[0].rule, made[2].rule))
                seen[equal] += 1
        self.assertGreater(seen[False], 20)
        self.assertGreater(seen[True], 5)


class Ways(unittest.TestCase):
    def test_sums_over_equal_ranges(self):
        pile = piled(total(M + N, "m", P)._pile, total(M, "m", P)._pile, -1)
        others, sums = sums_of(pile)
        self.assertEqual((others, len(sums), len(sums[0].members)), ([], 1, 2))
        pile = piled(pile, total(M, "m", P + 1)._pile, 2)
        self.assertEqual(len(sums_of(pile)[1]), 2)
        pile = piled(pile, ones(P)._pile, 2)
        self.assertEqual([len(part) for part in sums_of(pile)], [1, 2])

    def test_by_marks(self):
        t, s = M < N, rests(M, 3, 1)
        for made, seen in ((one_if(t | s) + one_if(t & s) - one_if(t) - one_if(s), True),
                           (one_if(t) + one_if(~t) - 1, True), (one_if(t) * one_if(~t), True),
                           (formula(M) * one_if(t) + M * one_if(~t) - M, True),
                           (one_if(t) - one_if(s), False), (ones(M) - ones(M + 0), False), (one_if(t) * M, False),
                           (power(-1, M) * one_if(t) + power(-1, M) * one_if(~t) - power(-1, M), True)):
            self.assertIs(is_zero_by_marks(made._pile), seen)
            if seen:
                self.assertEqual((made.rank, made.names, bool(made)), (0, (), False))

    def test_many_states(self):
        three, five, seven, nine = [rests(M, modulus, 1) for modulus in (3, 5, 7, 9)]
        self.assertEqual(one_if(three & five), one_if(three) * one_if(five))
        made = one_if(seven) + one_if(nine) + one_if(~seven)
        self.assertFalse(is_zero_by_marks((made + one_if(~nine) - 2)._pile))
        self.assertEqual(made, 2 - one_if(~nine))
        self.assertNotEqual(made, 2 - one_if(nine))

    def test_deep_ones(self):
        made = formula(N)
        for _ in range(40):
            made = total(made, "m", 1)
        self.assertEqual((made, made.rank), (N, 2))
        again = formula(N)
        for _ in range(25):
            again = total(again, "m", 1)
        self.assertEqual(again, made)
        product = one_if(M < N)
        for _ in range(40):
            product = product * one_if(M < N) + 0
        self.assertEqual(total(product, "m", P), count(M < N, "m", P))


if __name__ == "__main__":
    unittest.main()

"""Sums over ranges and products by integer lines, and by least rules alone, are the same; ranks and names are told
ahead of the rules, and in any order."""

import random
import unittest

from bitcounts.atoms import rank_by_heights
from bitcounts.bounds import pile_of_machine, pile_of_total
from bitcounts.counting import length, one_if, ones, raised as power
from bitcounts.errors import LimitError, TooMany
from bitcounts.formulas import Formula
from bitcounts.lines import lines_of_machine, lines_of_mixture, lines_system, lines_value, product_of_lines
from bitcounts.piles import pile_lines, pile_of_rule
from bitcounts.rules import multiplied
from bitcounts.solving import least_basis
from bitcounts.sums import summed
from bitcounts.totals import count, total
from bitcounts.words import difference_machine, formula, rests, same, var, word
from tests.drawn import drawn_formula, drawn_word
from tests.support import raised, told

M, N, P = var("m"), var("n"), var("p")


def drawn_bound(chance):
    return chance.choice([
        N, N + 1, 2 * N, N - 3, N >> 1, N | 4, N & 5, 5 - N, N + 6, N ^ 3, word(0), word(5), word(-2)])


def drawn_summand(chance):
    """A formula that is told by integer lines."""
    while True:
        try:
            (one, _), (other, _) = drawn_word(chance), drawn_word(chance)
            kind = chance.randrange(5)
            if kind == 0:
                return formula(one)
            if kind == 1:
                return one_if(one < other)
            if kind == 2:
                return formula(one) * one_if(rests(other, 3, 1))
            if kind == 3:
                return one * other
            return formula(one) * 3 - one_if(same(one, other)) * 2 + 1
        except LimitError:
            continue


def by_rules(one, machine, name):
    """The sum over the range by least rules alone."""
    within = Formula(pile_of_machine(machine, ("held", machine)))
    return Formula(pile_of_rule(summed(one.rule, within.rule, name), None))


def outcome(act, *values):
    try:
        return told(act(*values))
    except TooMany:
        return "TooMany"


class Sums(unittest.TestCase):
    def test_by_lines_and_by_rules(self):
        chance = random.Random(61)
        kinds = set()
        for _ in range(150):
            one, bound = drawn_summand(chance), drawn_bound(chance)
            machine = difference_machine(M, bound, False)
            expected = outcome(by_rules, one, machine, "m")
            self.assertEqual(outcome(total, one, "m", bound), expected)
            made = pile_of_total(one._pile, machine, "m") if expected != "TooMany" else None
            kinds.add((expected == "TooMany", made is None))
        self.assertTrue({(False, False), (True, True)} <= kinds)

    def test_measured_summands(self):
        for one in (ones(M), length(M + N), power(2, M & 3), ones(M) * N + 2, ones(M & N) - one_if(M < N)):
            for bound in (N, N + 1, N >> 1, word(6)):
                machine = difference_machine(M, bound, False)
                self.assertIsNone(pile_of_total(one._pile, machine, "m"))
                self.assertEqual(outcome(total, one, "m", bound), outcome(by_rules, one, machine, "m"))

    def test_many_lines_but_no_great_rank(self):
        for one, bound in ((5 ^ N, (N >> 1) + N), ((N >> 2) + M, (N >> 2) | N), ((N << 1) + (4 | M), N - 6),
                           ((M - N) + (7 ^ M), N << 2), (one_if(N - 2 <= 5 * M), N - 3),
                           (formula(M + N) * one_if(rests(M - N, 5, 0)), N)):
            machine = difference_machine(M, bound, False)
            made = total(one, "m", bound)
            self.assertEqual(told(made), told(by_rules(formula(one), machine, "m")))
            for n in range(20):
                size = max(0, bound.of(n=n))
                self.assertEqual(made.of(n=n), sum(formula(one).of(m=m, n=n) for m in range(size)))

    def test_limits_of_ranks(self):
        for act in (lambda: total(1, "m", 7 - (N >> 2) + (N << 2)), lambda: total(M & 2 ** 13, "m", 8 * N + 8),
                    lambda: count(same(M >> 3, N), "m", (N + 1) << 3), lambda: one_if(M < (N + 1 << 3)),
                    lambda: count(M < 2 * N, "m", 8 * N + 8), lambda: total(M * M, "m", 4 * N + 1)):
            try:
                made = act()
            except TooMany:
                continue
            self.assertLessEqual(made.rank, 16)
        raised(self, TooMany, lambda: count(same(M >> 4, N), "m", (N + 1) << 4))
        raised(self, TooMany, lambda: total(0, "m", (N + 1) << 4))
        for k in range(3):
            self.assertEqual(count(same(M >> k, N), "m", (N + 1) << k), formula(2 ** k))

    def test_values_of_nested_sums(self):
        made = total(total(M * N, "m", P), "n", P)
        self.assertEqual([made.of(p=p) for p in range(7)], [(p * (p - 1) // 2) ** 2 for p in range(7)])
        made = total(total(M + N, "m", N), "n", P)
        self.assertEqual([made.of(p=p) for p in range(7)],
                         [sum(m + n for n in range(p) for m in range(n)) for p in range(7)])
        great = 10 ** 30
        self.assertEqual(made.of(p=great), sum_of_cubes_like(great))


def sum_of_cubes_like(p):
    """The sum of m + n for all m < n < p: that of n * (n - 1) / 2 + n * n."""
    squares, plain = (p - 1) * p * (2 * p - 1) // 6, p * (p - 1) // 2
    return (3 * squares - plain) // 2


class Products(unittest.TestCase):
    def test_by_sources_and_by_rules(self):
        chance = random.Random(62)
        done = 0
        for _ in range(120):
            (one, first), (other, second) = drawn_formula(chance), drawn_formula(chance)
            one, other = one + 0 * P, formula(other)
            try:
                made = one * other
            except TooMany:
                if one.rank * other.rank <= 64:
                    raised(self, TooMany, multiplied, one.rule, other.rule)
                continue
            done += 1
            rule = multiplied(one.rule, other.rule)
            self.assertEqual(told(made), told(Formula(pile_of_rule(rule, None))))
            for m, n in ((0, 0), (3, 5), (12, 7), (100, 33)):
                self.assertEqual(made.of(m=m, n=n), first(m, n) * second(m, n))
        self.assertGreater(done, 40)

    def test_words_with_constants(self):
        chance = random.Random(63)
        for _ in range(60):
            one, other = chance.choice([M, N]) & chance.randrange(1, 4000), N & chance.randrange(1, 200)
            self.assertEqual(outcome(lambda: one * other), self.by_rules(one, other))
        raised(self, TooMany, lambda: (N & 1790) * (N & 2047))
        self.assertEqual(((N & 1790) * (N & 13)).of(n=2047), 1790 * 13)

    def by_rules(self, one, other):
        if one.rank * other.rank > 64:
            return "TooMany"
        return outcome(lambda: Formula(pile_of_rule(multiplied(one.rule, other.rule), None)))

    def test_lines_of_products(self):
        lines = product_of_lines(lines_of_mixture((M + N)._mixture), lines_of_machine((M < N)._machine), 40)[0]
        for m in range(5):
            for n in range(5):
                self.assertEqual(lines_value(lines, [m, n]), (m + n) * (m < n))
        rank = (formula(M + N) * one_if(M < N)).rank
        self.assertEqual(len(least_basis(lines_system(lines), None, 2).parts.codes), rank)
        one, other = lines_of_mixture((M & 63)._mixture), lines_of_mixture((N & 63)._mixture)
        self.assertEqual(product_of_lines(one, other, 10), ())
        self.assertEqual(len(pile_lines((M * N * P)._pile)[0].starts), 8)
        self.assertEqual(pile_lines(ones(M)._pile), ())


class RanksAndNames(unittest.TestCase):
    def test_in_any_order(self):
        chance = random.Random(64)
        asked = ["names", "rank", "basis", "equations", "firsts"]
        for at in range(80):
            state = chance.getstate()
            first, _ = drawn_formula(chance)
            expected = told(first)
            for order in range(3):
                chance.setstate(state)
                again, _ = drawn_formula(chance)
                chance_of_order = random.Random(at * 7 + order)
                for name in chance_of_order.sample(asked, 3):
                    getattr(again, name)
                self.assertEqual(told(again), expected)
                self.assertEqual(repr(again), f"Formula({len(expected[2])})")

    def test_ranks_are_those_of_rules(self):
        chance = random.Random(65)
        for _ in range(150):
            one, _ = drawn_word(chance)
            other, _ = drawn_formula(chance)
            for made in (one, other, 3 * one - 2, other + 5):
                self.assertEqual(made.rank, len(made.basis))

    def test_names_that_some_values_do_not_show(self):
        for made, names in ((one_if(same(M, 7)), ("m",)), (one_if(same(M, 7)) * N, ("m", "n")),
                            ((M & 64) + (N & 0), ("m",)), (formula(M & 128) * (N & 32), ("m", "n")),
                            (one_if(M > 60) + N * P, ("m", "n", "p")),
                            (ones(M + N) - ones(M + N), ()), (formula(N - 6) * (M - 5) * (M - 12), ("m", "n")),
                            (one_if(same(M, 2)) * one_if(same(M, 3)), ())):
            self.assertEqual(made.names, names)
            self.assertEqual(made.names, told(made + 0)[0])

    def test_ranks_by_digits(self):
        chance = random.Random(66)
        done = 0
        for _ in range(300):
            one = chance.choice([M, N, M + N, 3 * M + 2]) & chance.randrange(1, 1 << chance.randrange(1, 6))
            one = one ^ (N & chance.randrange(8)) if chance.random() < 0.3 else one
            one = M & chance.randrange(1, 1 << chance.randrange(1, 14)) if chance.random() < 0.3 else one
            parts = one._mixture.parts
            rank = rank_by_heights(parts[0][1]) if len(parts) == 1 else None
            if rank is not None:
                done += 1
                self.assertEqual(rank, len((5 * one - 3).rule.parts))
        self.assertGreater(done, 150)
        self.assertIsNone(rank_by_heights((M | 4)._mixture.parts[0][1]))
        self.assertIsNone(rank_by_heights((M >> 1)._mixture.parts[0][1]))
        for c in (2 ** 14, 2 ** 15 - 1, 10 ** 4):
            self.assertEqual((M & c).rank, c.bit_length() + 1)
        for c in (2 ** 15, 2 ** 15 + 1, 10 ** 6):
            raised(self, TooMany, lambda c=c: M & c)

    def test_rules_of_linear_words(self):
        for one, plain in ((M + N, lambda m, n: m + n), (5 - 3 * M, lambda m, n: 5 - 3 * m),
                           (word(7) - M + 2 * N, lambda m, n: 7 - m + 2 * n), (M - 1, lambda m, n: m - 1),
                           (16 * N + 10 ** 6, lambda m, n: 16 * n + 10 ** 6)):
            self.assertEqual((one.rank, len(one.basis), len(one.firsts)), (2, 2, 2))
            self.assertEqual(one.basis[0], (0, (0,) * len(one.names)))
            level, label = one.basis[1]
            values = dict(zip(one.names, label))
            self.assertEqual(one.firsts, (plain(0, 0), plain(values.get("m", 0), values.get("n", 0))))
            self.assertEqual(level, 1)
            self.assertEqual(told(one), told((one + ones(M) - ones(M))))


if __name__ == "__main__":
    unittest.main()

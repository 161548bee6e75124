"""Tests of many classes, joined and compared: by batches of pairs, by what is beside them, by all pairs one by one."""

import random
import unittest

from bitcounts.conditions import Test
from bitcounts.counting import one_if
from bitcounts.errors import TooMany, TooManyClasses, TooManyNames
from bitcounts.joins import (
    TABLES, are_seen_apart, binary_rank, holds_only_within, insides, is_within, joined, joined_by_pairs, outsides,
    pairs_of, seen_together, signs_of,
)
from bitcounts.machines import opposite, same_machines
from bitcounts.words import rests, same, var
from tests.support import raised

M, N, P = var("m"), var("n"), var("p")
NAMES = ("m", "n", "p")


def times(by, one):
    """So many times a word, for factors that `*` does not take."""
    return by * one if by <= 16 else ((by >> 4) * one << 4) + (by & 15) * one


def drawn_machine(chance, great):
    """A test of several comparisons, of many classes."""
    one = times(chance.randrange(1, great), M) < times(chance.randrange(1, 4), chance.choice([N, N + 1]))
    kind = chance.randrange(4)
    if kind == 0:
        return one._machine
    other = chance.choice([N < P, N >= P, N <= P + 1, rests(N + P, 3, 1), M < N])
    made = one & other if kind == 1 else one | other if kind == 2 else ~(one & other)
    return made._machine


def by_all_pairs(machine, other, sign):
    """The joined machine by the pairs one by one, or the name of the error."""
    try:
        _ = pairs_of(machine, other, NAMES, None)
        return joined_by_pairs(machine, other, NAMES, TABLES[sign])
    except TooManyClasses:
        return "TooManyClasses"


class Joined(unittest.TestCase):
    def test_by_all_pairs(self):
        chance = random.Random(81)
        errors = 0
        for at in range(60):
            great = 12 if at % 3 else 64
            machine, other = drawn_machine(chance, great), drawn_machine(chance, great)
            for sign in TABLES:
                expected = by_all_pairs(machine, other, sign)
                if expected == "TooManyClasses":
                    errors += 1
                    raised(self, TooManyClasses, joined, machine, other, sign)
                else:
                    self.assertTrue(same_machines(joined(machine, other, sign), expected))
        self.assertGreater(errors, 10)
        self.assertLess(errors, 150)

    def test_within(self):
        chance = random.Random(82)
        answers = {True: 0, False: 0}
        for _ in range(60):
            machine, other = drawn_machine(chance, 40), drawn_machine(chance, 40)
            for one, two in ((machine, other), (other, machine), (machine, opposite(other)), (machine, machine)):
                pairs = pairs_of(one, two, NAMES, ((True, True), (False, True)))
                size, many = len(two.marks), len(one.marks) * len(two.marks)
                expected = not any(one.marks[code // size] and not two.marks[code % size]
                                   for code in pairs.codes if code != many)
                self.assertIs(is_within(one, two), expected)
                self.assertIs(holds_only_within(one, two), expected)
                answers[expected] += 1
        self.assertGreater(min(answers.values()), 20)

    def test_with_contradictions(self):
        t, s = (times(30, M) < N) & (N < P), (2 * M < times(56, N)) & (N >= P)
        self.assertEqual((t & s).classes, 1)
        self.assertFalse(t & s)
        self.assertTrue(t <= ~s)
        self.assertTrue(s <= ~t)
        self.assertFalse(s <= t)
        self.assertFalse(t <= s)
        raised(self, TooManyClasses, lambda: t | s)
        raised(self, TooManyClasses, lambda: t ^ s)
        t, s = (times(64, M) < N) & (N < P), (M < times(64, N)) & (N >= P)
        self.assertTrue(t <= ~s)
        # Both never hold together, but more than 4096 pairs of their classes come up.
        raised(self, TooManyClasses, lambda: t & s)
        raised(self, TooManyNames, lambda: t & (var("k") < M))
        raised(self, TooManyNames, lambda: t <= (var("k") < M))

    def test_just_beside_contradictions(self):
        t, s = (times(30, M) < N) & (N <= P), (2 * M < times(56, N)) & (N >= P)
        both = t & s
        self.assertEqual(both, (times(30, M) < N) & (2 * M < times(56, N)) & same(N, P))
        self.assertEqual(both.least, (("m", 0), ("n", 1), ("p", 1)))
        self.assertFalse(t <= ~s)
        self.assertTrue((t & same(N, P + 1)) <= ~s)

    def test_chains(self):
        made = always_small = M < 100
        for by in range(2, 12):
            made = made & (by * M <= (by + 1) * N)
            self.assertTrue(made <= always_small)
            self.assertTrue(~always_small <= ~made)
        for m in range(6):
            for n in range(6):
                self.assertEqual(made.of(m=m, n=n), all(by * m <= (by + 1) * n for by in range(2, 12)))


class Beside(unittest.TestCase):
    def test_what_is_told(self):
        t = (times(30, M) < N) & (N < P)
        self.assertEqual([one.variables for one in insides(t._machine)], [("m", "n"), ("n", "p")])
        self.assertEqual(outsides((~t)._machine), insides(t._machine))
        made = (~t)._machine
        self.assertEqual(insides(made), (made,))
        s = (times(30, M) < N) | (N < P)
        self.assertEqual([one.variables for one in outsides(s._machine)], [("m", "n"), ("n", "p")])
        for one in (t, s, ~t, ~s, t & (M < P), s | (M < P)):
            for inner in insides(one._machine):
                self.assertTrue(one <= Test(inner))
            for outer in outsides(one._machine):
                self.assertTrue(~one <= Test(outer))
        self.assertTrue(are_seen_apart(insides((N < P)._machine), insides((N >= P)._machine)))
        self.assertFalse(are_seen_apart(insides((N <= P)._machine), insides((N >= P)._machine)))
        self.assertFalse(are_seen_apart(insides((N < P)._machine), insides((M < N)._machine)))

    def test_equal_tests_are_equal_whatever_is_beside_them(self):
        one, other = (times(20, M) < N) & (N < P), ~(~(N < P) | (times(20, M) >= N))
        self.assertEqual(one, other)
        self.assertEqual(one & (N >= P), other & (N >= P))


class Signs(unittest.TestCase):
    def test_values(self):
        t = 3 * M < N + P
        signs = signs_of(t._machine, NAMES)
        self.assertEqual(len(signs), t.classes)
        for m, n, p in ((0, 0, 0), (1, 2, 2), (5, 9, 7), (15, 15, 15), (15, 0, 1)):
            index = 0
            for place in range(4):
                index = 8 * index + sum((number >> place & 1) << 2 - at for at, number in enumerate((m, n, p)))
            self.assertEqual(signs[0] >> index & 1, t.of(m=m, n=n, p=p))

    def test_ranks(self):
        self.assertEqual(binary_rank([]), 0)
        self.assertEqual(binary_rank([0, 0]), 0)
        self.assertEqual(binary_rank([5, 3, 6, 1]), 3)
        self.assertEqual(binary_rank([1 << at for at in range(40)]), 17)
        for t in (M < N, rests(M, 11, 3), same(M >> 4, N), (M < 60) & (N < M), same(M & N, P)):
            self.assertLessEqual(binary_rank(signs_of(t._machine, t.names)), one_if(t).rank)
        for t in ((times(64, M) < N), rests(M, 11, 3) & rests(N, 3, 1), M < 10 ** 5 + 3):
            raised(self, TooMany, one_if, t)

    def test_pairs(self):
        t, s = M < N, N < P
        pairs = seen_together(t._machine, s._machine, NAMES, None, 100)
        self.assertEqual((sorted(sorted(row) for row in pairs.seen), pairs.waiting), ([[0, 1], [0, 1]], False))
        pairs = seen_together((times(64, M) < N)._machine, (M < times(64, P))._machine, NAMES, None, 100)
        self.assertTrue(pairs.waiting)
        self.assertGreater(sum(len(row) for row in pairs.seen), 100)


if __name__ == "__main__":
    unittest.main()

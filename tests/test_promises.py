"""What point 2 of the document promises, over the whole program: formulas, words, tests, totals, desks, checker."""

import random
import unittest

from bitcounts.certificates import certify_parting, certify_relations, certify_within
from bitcounts.checker import accepts
from bitcounts.counting import one_if
from bitcounts.desks import Desk
from bitcounts.errors import LimitError, Parted, Refused
from bitcounts.relations import parting, relations
from bitcounts.totals import count, total
from bitcounts.words import formula, var
from tests.brute import ordered_points
from tests.drawn import drawn_formula, drawn_sum, drawn_test, drawn_word
from tests.support import told

M, N = var("m"), var("n")
GRID = ordered_points(2, 3)


def values(function):
    return [function(m, n) for m, n in GRID]


class Promises(unittest.TestCase):
    def test_same_and_parting(self):
        chance = random.Random(21)
        for _ in range(60):
            (one, first), (other, second) = drawn_formula(chance), drawn_formula(chance)
            found = parting(one, other)
            self.assertEqual(one == other, found is None)
            if found is not None:
                numbers = {"m": 0, "n": 0, **dict(found)}
                self.assertNotEqual(first(**numbers), second(**numbers))
            claim, paper = certify_parting(one, other)
            self.assertTrue(accepts(claim, paper))

    def test_one_least_rule(self):
        chance = random.Random(22)
        done = 0
        for _ in range(60):
            (one, first), (other, second) = drawn_formula(chance), drawn_word(chance)
            try:
                ways = [one + other - other, (one - other) + other, 3 * one - (one + one), other + one + (-other),
                        (one + 1) * 2 - one - 2]
            except LimitError:
                continue
            done += 1
            for way in ways:
                self.assertEqual(told(way), told(one))
                self.assertIsNone(parting(way, one))
            self.assertEqual(values(lambda m, n: ways[0].of(m=m, n=n)), values(first))
        self.assertGreater(done, 25)

    def test_totals_and_tests(self):
        chance = random.Random(23)
        done = 0
        for _ in range(60):
            test, holds = drawn_test(chance)
            one, value = drawn_sum(chance)
            try:
                counted, added = count(test, "m", N + 2), total(one * one_if(test), "m", N + 2)
                plain = total(one_if(test), "m", N + 2)
            except LimitError:
                continue
            done += 1
            self.assertEqual(counted, plain)
            for n in range(10):
                self.assertEqual(counted.of(n=n), sum(holds(m, n) for m in range(n + 2)))
                self.assertEqual(added.of(n=n), sum(value(m, n) for m in range(n + 2) if holds(m, n)))
        self.assertGreater(done, 20)

    def test_relations_and_desks(self):
        chance = random.Random(24)
        done = 0
        for _ in range(40):
            things = [drawn_formula(chance)[0] for _ in range(3)]
            try:
                things.append(sum((chance.randint(-2, 2) * one for one in things), formula(0)))
                rows = relations(*things)
                papers = certify_relations(*things)
            except LimitError:
                continue
            desk = Desk()
            for name, one in zip("abcd", things):
                desk[name] = one
            for row, (claim, paper) in zip(rows, papers):
                done += 1
                self.assertTrue(accepts(claim, paper))
                desk.claim(tuple(zip(row, "abcd")))
                wrong = tuple(zip((row[0] + 1, *row[1:]), "abcd"))
                if things[0]:
                    self.assertRaises(Refused, desk.claim, wrong)
            self.keep_others(desk, things, rows, chance)
        self.assertGreater(done, 30)

    def keep_others(self, desk, things, rows, chance):
        """No formula is kept by which a claim fails, and each other one is."""
        for place, name in enumerate("abcd"):
            other = drawn_formula(chance)[0]
            new = [*things[:place], other, *things[place + 1:]]
            points = ordered_points(2, 4)
            fails = [index for index, row in enumerate(rows) if any(
                sum(factor * one.of(m=m, n=n) for factor, one in zip(row, new)) for m, n in points)]
            try:
                desk[name] = other
                self.assertEqual(fails, [])
                desk.undo()
            except Refused as error:
                self.assertEqual(error.index, fails[0])
                self.assertIs(type(error.__cause__), Parted)
                numbers = {"m": 0, "n": 0, **dict(error.__cause__.pairs)}
                self.assertNotEqual(sum(factor * one.of(**numbers) for factor, one in zip(rows[fails[0]], new)), 0)
            self.assertEqual(desk[name], things[place])

    def test_tests(self):
        chance = random.Random(25)
        for _ in range(60):
            (one, first), (other, second) = drawn_test(chance), drawn_test(chance)
            claim, paper = certify_within(one, other)
            self.assertTrue(accepts(claim, paper))
            self.assertEqual(one <= other, claim[0] == "within")
            self.assertEqual(one == other, one <= other and other <= one)
            if values(first) != values(second):
                self.assertNotEqual(one, other)
            if one.classes <= 16 and other.classes <= 16:
                self.assertEqual(one == other, one_if(one) == one_if(other))


if __name__ == "__main__":
    unittest.main()

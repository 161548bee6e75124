"""Certificates: what they tell, that they are accepted, plain rules and machines by hand, errors."""

import random
import unittest

from bitcounts.certificates import certify_parting, certify_relations, certify_within, plain_machine, plain_rule
from bitcounts.checker import accepts
from bitcounts.conditions import always
from bitcounts.counting import ones
from bitcounts.errors import InvalidValues, LimitError, NotAFormula, NotATest, TooMany, TooManyClasses, TooManyNames
from bitcounts.relations import parting, relations
from bitcounts.totals import total
from bitcounts.words import formula, rests, same, var, word
from tests.brute import ordered_points
from tests.drawn import drawn_formula, drawn_test
from tests.support import Other, raised

M, N, K, P = var("m"), var("n"), var("k"), var("p")
OTHERS = [None, "m", "", (), (1,), [1], {"m": 1}, b"m", True, False, Other(), Other]
GREAT = M & 2 ** 14


def one_row(*numbers):
    return tuple((number, 1) for number in numbers)


class Parting(unittest.TestCase):
    def test_drawn_ones(self):
        chance = random.Random(11)
        kinds = []
        for _ in range(120):
            (one, _), (other, _) = drawn_formula(chance), drawn_formula(chance)
            claim, paper = certify_parting(one, other)
            kinds.append(claim[0])
            found = parting(one, other)
            self.assertEqual(claim[1:3], (plain_rule(one), plain_rule(other)))
            self.assertEqual(claim[0], "same" if found is None else "parting")
            self.assertEqual(claim[3:], () if found is None else (found,))
            self.assertIs(accepts(claim, paper), True)
            self.assertEqual(certify_parting(one, other), (claim, paper))
            if found is not None:
                self.assertIs(accepts(("apart", *claim[1:]), ()), True)
                self.assertIs(accepts(("same", *claim[1:3]), paper), False)
        self.assertIn("parting", kinds)

    def test_the_same(self):
        for one, other in ((M + N, (M ^ N) + 2 * (M & N)), (ones(M) + ones(N), ones(M ^ N) + 2 * ones(M & N)),
                           (M * M - 1, (M + 1) * (M - 1)), (2 * total(M, "m", N), N * N - N), (0, M - M),
                           (10 ** 120, 10 ** 120), (word(3), 3), (GREAT, GREAT)):
            claim, paper = certify_parting(one, other)
            self.assertEqual((claim[0], len(claim)), ("same", 3))
            self.assertIs(accepts(claim, paper), True)
            self.assertEqual(claim[1], claim[2])

    def test_integers(self):
        three, four = plain_rule(3), plain_rule(4)
        self.assertEqual(certify_parting(3, 4), (("parting", three, four, ()), ((), ())))
        self.assertEqual(certify_parting(3, 3), (("same", three, three), (((),), ((one_row(1),),))))
        self.assertEqual(certify_parting(0, 0), (("same", plain_rule(0), plain_rule(0)), ((), ())))
        for one, other in ((3, 4), (0, 1), (0, 10 ** 200), (M, 3), (0, N), (10 ** 130, M + 10 ** 6)):
            self.assertIs(accepts(*certify_parting(one, other)), True)

    def test_by_hand(self):
        claim, paper = certify_parting(M, 2 * M)
        self.assertEqual((claim[0], claim[3]), ("parting", (("m", 1),)))
        self.assertEqual(paper, (((0,),), ((one_row(1), None),)))
        claim, paper = certify_parting(f=M, g=M)
        self.assertEqual(paper, (((0,), (1,)), ((one_row(1, 0), one_row(0, 1)), (one_row(-1, 2), one_row(-2, 3)))))

    def test_great_ones(self):
        for one, other in ((GREAT, N & 2 ** 14), (GREAT, 0), (M & 2 ** 13, GREAT), (GREAT + 0 * N, M)):
            claim, paper = certify_parting(one, other)
            self.assertIs(accepts(claim, paper), True)

    def test_errors(self):
        for wrong in OTHERS + [M < N]:
            self.assertIs(raised(self, NotAFormula, certify_parting, wrong, None).value, wrong)
            self.assertIs(raised(self, NotAFormula, certify_parting, M, wrong).value, wrong)
            self.assertIs(raised(self, NotAFormula, plain_rule, wrong).value, wrong)
        raised(self, TooManyNames, certify_parting, M + N, K + P)


class Relations(unittest.TestCase):
    def test_drawn_ones(self):
        chance = random.Random(12)
        done = 0
        for _ in range(40):
            things = [drawn_formula(chance)[0] for _ in range(chance.randint(1, 3))]
            try:
                made = sum((chance.randint(-3, 3) * one for one in things), formula(chance.randint(0, 2)))
                things = [*things, 1, made, things[0]]
                papers = certify_relations(*things)
            except TooMany:
                continue
            rows = relations(*things)
            self.assertEqual([claim[2] for claim, _ in papers], list(rows))
            self.assertGreater(len(rows), 0)
            for claim, paper in papers:
                done += 1
                self.assertEqual(claim[:2], ("relation", tuple(plain_rule(one) for one in things)))
                self.assertIs(accepts(claim, paper), True)
            self.assertEqual(certify_relations(*things), papers)
        self.assertGreater(done, 50)

    def test_by_hand(self):
        self.assertEqual(certify_relations(M, N), ())
        (claim, paper), = certify_relations(2, 3)
        self.assertEqual((claim, paper), (("relation", (plain_rule(2), plain_rule(3)), (-3, 2)),
                                          (((),), ((one_row(1),),))))
        (claim, paper), = certify_relations(0)
        self.assertEqual((claim, paper), (("relation", (plain_rule(0),), (1,)), ((), ())))

    def test_the_limit(self):
        papers = certify_relations(GREAT, GREAT, GREAT, GREAT)
        self.assertEqual(len(papers), 3)
        for claim, paper in papers:
            self.assertIs(accepts(claim, paper), True)
        raised(self, TooMany, certify_relations, GREAT, GREAT, GREAT, GREAT, 1)

    def test_errors(self):
        for many in (0, 7):
            self.assertIsNone(raised(self, InvalidValues, certify_relations, *[None] * many).index)
        for wrong in OTHERS:
            self.assertIs(raised(self, NotAFormula, certify_relations, M, wrong, None).value, wrong)
        raised(self, TooManyNames, certify_relations, M + N, GREAT, GREAT, GREAT, GREAT, K + P)


class Within(unittest.TestCase):
    def test_drawn_ones(self):
        chance = random.Random(13)
        kinds = {"within": 0, "outside": 0}
        for _ in range(150):
            try:
                (one, first), (other, second) = drawn_test(chance), drawn_test(chance)
                if chance.random() < 0.4:
                    other, plain = one | other, second
                    second = lambda m, n, first=first, plain=plain: first(m, n) or plain(m, n)
                claim, paper = certify_within(one, other)
            except LimitError:
                continue
            kinds[claim[0]] += 1
            self.assertEqual(claim[0] == "within", one <= other)
            self.assertEqual(claim[1:3], (plain_machine(one), plain_machine(other)))
            self.assertIs(accepts(claim, paper), True)
            self.assertEqual(certify_within(one, other), (claim, paper))
            if claim[0] == "outside":
                names = tuple(sorted({*one.names, *other.names}))
                self.assertEqual(tuple(name for name, _ in claim[3]), names)
                numbers = {"m": 0, "n": 0, **dict(claim[3])}
                self.assertTrue(first(**numbers) and not second(**numbers))
                self.assertEqual(paper, ())
                points = ordered_points(len(names), 3)
                least = next((point for point in points if one.holds(tuple(zip(names, point)))
                              and not other.holds(tuple(zip(names, point)))), None)
                if least is not None:
                    self.assertEqual(claim[3], tuple(zip(names, least)))
        self.assertGreater(min(kinds.values()), 20)

    def test_by_hand(self):
        low = (("m",), ((0, 1), (1, 1)), (True, False))
        self.assertEqual(plain_machine(M < 1), low)
        everywhere, nowhere = ((), ((0,),), (True,)), ((), ((0,),), (False,))
        self.assertEqual([plain_machine(always()), plain_machine(~always())], [everywhere, nowhere])
        self.assertEqual(certify_within(M < 1, always()), (("within", low, everywhere), ((0, 0), (1, 0))))
        self.assertEqual(certify_within(always(), M < 1), (("outside", everywhere, low, (("m", 1),)), ()))
        self.assertEqual(certify_within(t=always(), s=~always()), (("outside", everywhere, nowhere, ()), ()))
        self.assertEqual(certify_within(same(N, 2), M < 1)[0][3], (("m", 1), ("n", 2)))

    def test_machines_by_hand(self):
        # The states: m at least 2 (k = 0), m at least 1, always.
        self.assertEqual(plain_machine(M >= 2), (("m",), ((1, 1), (1, 2), (2, 2)), (False, False, True)))
        self.assertEqual(plain_machine(rests(M, 3, 1)),
                         (("m",), ((1, 2), (0, 1), (2, 0)), (False, False, True)))
        self.assertEqual(plain_machine(M < N), (("m", "n"), ((0, 1, 0, 0), (1, 1, 0, 1)), (False, True)))

    def test_errors(self):
        for wrong in OTHERS + [M, formula(M), 5]:
            self.assertIs(raised(self, NotATest, certify_within, wrong, None).value, wrong)
            self.assertIs(raised(self, NotATest, certify_within, M < N, wrong).value, wrong)
            self.assertIs(raised(self, NotATest, plain_machine, wrong).value, wrong)
        raised(self, TooManyNames, certify_within, M < N, K < P)

    def test_many_pairs(self):
        one, other = rests(M, 11, 0) & rests(N, 7, 1), rests(M, 7, 3) & rests(N, 11, 2)
        raised(self, TooManyClasses, certify_within, one, other)
        raised(self, TooManyClasses, lambda: one & other)
        raised(self, TooManyNames, certify_within, one, K < P)

    def test_more_than_256_classes_together(self):
        one, other = rests(M, 11, 0) & rests(N, 5, 1), rests(M, 9, 3) & rests(N, 5, 1)
        raised(self, TooManyClasses, lambda: one & ~other)
        claim, paper = certify_within(one, other)
        self.assertEqual(claim[0], "outside")
        self.assertEqual(claim[3], (("m", 0), ("n", 1)))
        self.assertIs(accepts(claim, paper), True)


class Rules(unittest.TestCase):
    def test_by_hand(self):
        self.assertEqual(plain_rule(3), ((), (((one_row(1)),),), (3,), one_row(1)))
        self.assertEqual(plain_rule(0), ((), ((),), (), ()))
        even, odd = (one_row(2, 0), one_row(2, 1)), (one_row(0, 1), one_row(-2, 3))
        self.assertEqual(plain_rule(M), (("m",), (even, odd), (0, 1), one_row(1, 0)))
        self.assertEqual(plain_rule(formula(M)), plain_rule(M))

    def test_what_formulas_tell(self):
        chance = random.Random(14)
        for _ in range(40):
            one, _ = drawn_formula(chance)
            names, sides, firsts, told = plain_rule(f=one)
            self.assertEqual((names, firsts, len(sides)), (one.names, one.firsts, 2 ** len(names)))
            for at, line in enumerate(one.equations):
                self.assertEqual(line, tuple(side[at] for side in sides))
            self.assertEqual(told, one_row(*[int(at == 0) for at in range(one.rank)]))


if __name__ == "__main__":
    unittest.main()

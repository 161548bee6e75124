"""Point 9: variables that drop out of a word that is joined by and, or, exclusive or are not asked for any more."""

import random
import unittest

from bitcounts.certificates import certify_parting, certify_relations
from bitcounts.checker import accepts
from bitcounts.conditions import always
from bitcounts.console import Console
from bitcounts.counting import length, one_if, ones, raised as power
from bitcounts.desks import Desk
from bitcounts.errors import Refused, TooManyNames, WrongNames
from bitcounts.relations import new_tuples, parting, relations
from bitcounts.texts import read_formula
from bitcounts.totals import count, total
from bitcounts.words import formula, rests, same, var, word
from tests.support import raised, told

M, N, P, Q = (var(name) for name in "mnpq")


def dropped():
    """Words that are made anew, each with the names that are left, and its value, which hangs on no other number."""
    return [
        ((4 * M + N) & 3, "n", lambda m, n, p: n & 3),
        ((2 * M + N - 4) & 1, "n", lambda m, n, p: n & 1),
        ((8 * M - N + 5) & 6, "n", lambda m, n, p: 5 - n & 6),
        ((2 * M + N) | -2, "n", lambda m, n, p: n | -2),
        ((4 * M - 3 * N) | -4, "n", lambda m, n, p: -3 * n | -4),
        (((4 * M + N) & 3) ^ 5, "n", lambda m, n, p: n & 3 ^ 5),
        ((M ^ N) ^ M, "n", lambda m, n, p: n),
        ((M ^ N) ^ (M ^ P), "np", lambda m, n, p: n ^ p),
        ((M ^ (N & P)) ^ M, "np", lambda m, n, p: n & p),
        (((M << 1) ^ N) & 1, "n", lambda m, n, p: n & 1),
        (((2 * M + N) ^ (2 * M + P)) & 1, "np", lambda m, n, p: (n ^ p) & 1),
        ((M & N) & ~M, "", lambda m, n, p: 0),
        ((M | N) | ~M, "", lambda m, n, p: -1),
        ((M & N) ^ (M & N), "", lambda m, n, p: 0),
        ((4 * M + 2 * N + P) & 1, "p", lambda m, n, p: p & 1),
        ((8 * M + 4 * N + P) | -4, "p", lambda m, n, p: p | -4),
        (((M ^ N) ^ P) ^ (M ^ N), "p", lambda m, n, p: p),
        ((4 * M + 8 * N) & 3, "", lambda m, n, p: 0),
        ((4 * M - 8 * N + 6) & 3, "", lambda m, n, p: 2),
        ((2 * M + 4 * P + 1) | -2, "", lambda m, n, p: -1),
        (((4 * M + N) & 3) | (2 * P), "np", lambda m, n, p: n & 3 | 2 * p),
        ((((2 * M + N) & 1) ^ P) & 6, "p", lambda m, n, p: p & 6),
        ((((2 * M + N) & 1) ^ P) & 7, "np", lambda m, n, p: (n & 1 ^ p) & 7),
        ((((2 * M + N) | -2) & (P + 1)) + N, "np", lambda m, n, p: ((n | -2) & p + 1) + n),
        (((((4 * M + N) & 3) + P) & 12) - 2 * P, "np", lambda m, n, p: ((n & 3) + p & 12) - 2 * p),
        ((((2 * (M >> 1) + N) & 1) << 2) | N, "n", lambda m, n, p: (n & 1) << 2 | n),
        ((2 * (M ^ 5) + N) & 1, "n", lambda m, n, p: n & 1),
        (((M & 1) + 4 * ((N >> 3) & P)) & 3, "m", lambda m, n, p: m & 1),
    ]


def all_numbers():
    return [(m, n, p) for m in (0, 3, 10) for n in range(9) for p in range(5)]


def by_names(names, numbers):
    return {name: number for name, number in zip("mnp", numbers) if name in names}


class Values(unittest.TestCase):
    def test_at_and_of(self):
        for one, names, value in dropped():
            self.assertEqual(one.names, tuple(names))
            for numbers in all_numbers():
                own = by_names(names, numbers)
                for made in (one, formula(one)):
                    self.assertEqual(made.of(**own), value(*numbers))
                    self.assertEqual(made.of(**by_names("mnp", numbers)), value(*numbers))
                    self.assertEqual(made.at(tuple(sorted(own.items()))), value(*numbers))

    def test_names_that_are_left_are_asked_for(self):
        for one, names, _ in dropped():
            for made in (one, formula(one), one + 1, ones(one) + one):
                if names:
                    self.assertEqual(raised(self, WrongNames, made.of, q=1).name, names[0])
                else:
                    self.assertIsInstance(made.of(q=1), int)

    def test_great_numbers(self):
        chance = random.Random(51)
        for one, names, value in dropped():
            for _ in range(5):
                numbers = [chance.randrange(10 ** 90) for _ in range(3)]
                self.assertEqual(one.of(**by_names(names, numbers)), value(*numbers))

    def test_what_is_made_of_them(self):
        for one, names, value in dropped():
            for numbers in all_numbers()[::3]:
                own, number = by_names(names, numbers), value(*numbers)
                many = bin(abs(number)).count("1")
                self.assertEqual(ones(one).of(**own), many)
                self.assertEqual(length(one).of(**own), abs(number).bit_length())
                self.assertEqual(power(-3, one).of(**own), (-3) ** many)
                self.assertEqual(power(0, one).of(**own), int(number == 0))
                self.assertEqual((one * one - 3 * formula(one)).of(**own), number * number - 3 * number)
                self.assertEqual((one ** 2).of(**own), number ** 2)
                self.assertEqual((~one << 1).of(**own), 2 * ~number)
                self.assertEqual(one_if(one < 3).of(**own), int(number < 3))
                self.assertEqual((ones(one) - 5 * one_if(rests(one, 2, 1))).of(**own), many - 5 * (number % 2))

    def test_limits_of_names(self):
        one = (4 * M + N) & 3
        self.assertEqual((one + P + Q).names, ("n", "p", "q"))
        self.assertEqual((one ^ (P + Q)).of(n=6, p=5, q=8), 2 ^ 13)
        self.assertEqual((one < P + Q).of(n=7, p=1, q=2), False)
        self.assertEqual((ones(one) * P * Q).of(n=3, p=2, q=5), 20)
        raised(self, TooManyNames, lambda: one + M + P + Q)


class Comparisons(unittest.TestCase):
    def test_with_others(self):
        for one, names, value in dropped():
            for other, names_beside, value_beside in dropped():
                equal = names == names_beside and all(value(*n) == value_beside(*n) for n in all_numbers())
                self.assertIs(one == other, equal)
                self.assertIs(one != other, not equal)
                self.assertIs(formula(one) == other, equal)
                self.assertIs(ones(one) + 3 * one == ones(other) + 3 * other, equal)

    def test_with_variables_and_integers(self):
        for one, names, value in dropped():
            self.assertIs(one == M, False)
            self.assertIs(one == P, all(value(*numbers) == numbers[2] for numbers in [*all_numbers(), (0, 0, 9)]))
            self.assertIs(one == N, all(value(*numbers) == numbers[1] for numbers in all_numbers()))
            self.assertIs(one == word(-1), names == "" and value(0, 0, 0) == -1)
            self.assertIs(bool(one), any(value(*numbers) for numbers in all_numbers()))

    def test_tests(self):
        for one, names, value in dropped():
            for numbers in all_numbers()[::4]:
                own = {**by_names(names, numbers), "n": numbers[1]}
                number = value(*numbers)
                self.assertIs((one < N).of(**own), number < numbers[1])
                self.assertIs((one >= N).of(**own), number >= numbers[1])
                self.assertIs(same(one, N & 7).of(**own), number == numbers[1] & 7)
                self.assertIs(rests(one, 5, 2).of(**own), number % 5 == 2)
            self.assertEqual(same(one, one), always())
            self.assertTrue(set((one < 2).names) <= set(names))


class Partings(unittest.TestCase):
    def test_least_tuples(self):
        for one, names, value in dropped():
            for other, plain in ((N, lambda m, n, p: n), (P, lambda m, n, p: p), (word(2), lambda m, n, p: 2)):
                both = sorted(set(names) | set(other.names))
                points = sorted([(m, n, p) for m in range(4) for n in range(10) for p in range(10)],
                                key=lambda point: (max(point).bit_length(), point))
                first = next((point for point in points if value(*point) != plain(*point)), None)
                expected = None if first is None else tuple((name, dict(zip("mnp", first))[name]) for name in both)
                self.assertEqual(parting(one, other), expected)
                claim, paper = certify_parting(one, other)
                self.assertEqual(claim[0], "same" if expected is None else "parting")
                self.assertTrue(accepts(claim, paper))

    def test_relations(self):
        for one, names, value in dropped():
            if not names:
                continue
            self.assertEqual(relations(one, 3 * one), ((-3, 1),))
            self.assertEqual(relations(one, Q, formula(one) - 2 * Q), ((-1, 2, 1),))
            self.assertEqual(new_tuples(one), new_tuples(formula(one) * 1))
            self.assertEqual(len(new_tuples(one)), one.rank)
            ((claim, paper),) = certify_relations(one, one)
            self.assertTrue(accepts(claim, paper))
        self.assertEqual(relations((4 * M + N) & 3, N & 3), ((-1, 1),))

    def test_the_same_rules(self):
        for one, names, value in dropped():
            self.assertEqual(told(one), told(formula(one) + 0))
            self.assertEqual(told((M ^ N) ^ M), told(N))


class Ranges(unittest.TestCase):
    def test_totals_and_counts(self):
        for one, names, value in dropped():
            made = total(one, "n", Q)
            counted = count(one < 2, "n", Q)
            for numbers in all_numbers()[::5]:
                own = {**by_names(names.replace("n", ""), numbers), "q": 6}
                m, _, p = numbers
                self.assertEqual(made.of(**own), sum(value(m, n, p) for n in range(6)))
                self.assertEqual(counted.of(**own), sum(value(m, n, p) < 2 for n in range(6)))
            self.assertEqual(total(1, "q", one).of(**by_names(names, (2, 7, 4))), max(0, value(2, 7, 4)))


class Desks(unittest.TestCase):
    def test_claims(self):
        for one, names, value in dropped():
            desk = Desk()
            desk["one"], desk["twice"], desk["n"] = one, 2 * one, N
            desk.claim(((-2, "one"), (1, "twice")))
            self.assertEqual(desk["one"].of(**by_names(names, (4, 5, 6))), value(4, 5, 6))
            if parting(one, N) is not None:
                error = raised(self, Refused, desk.claim, ((1, "one"), (-1, "n")))
                self.assertEqual((error.index, error.__cause__.pairs), (1, parting(one, N)))

    def test_lines(self):
        console = Console()
        self.assertEqual(console.say("w := (((4 * m) + n) & 3)"), "rank 3")
        self.assertEqual(console.say("v := (n & 3)"), "rank 3")
        self.assertEqual(console.say("w and v"), "same")
        self.assertEqual(console.say("claim 1 w + -1 v"), "ok")
        self.assertEqual(console.say("u := n"), "rank 2")
        self.assertEqual(console.say("w and u"), "apart at n=4")
        self.assertEqual(console.say("where ((((2 * m) + n) | (- 2)) == (- 1))"), "at n=1")
        self.assertEqual(read_formula("ones((((4 * m) + n) & 3))").of(n=7), 2)


if __name__ == "__main__":
    unittest.main()

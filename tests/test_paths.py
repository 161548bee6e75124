"""Words that are told by few states, and the same words told by their least rules alone, make the same of everything.

The second way is taken for words that would have too many states; it does not use the states of atoms at all.
"""

import operator
import random
import unittest

from bitcounts.counting import length, ones, raised as power
from bitcounts.errors import LimitError
from bitcounts.mixtures import is_bulky, mixture_lag
from bitcounts.words import bulky_word, formula, rests, same, var
from tests.support import told

NAMES = [var("m"), var("n"), var("k")]
SIGNS = [operator.and_, operator.or_, operator.xor]
ORDERS = [operator.lt, operator.le, operator.gt, operator.ge, same]
MEASURES = [ones, length, lambda u: power(0, u), lambda u: power(-1, u), lambda u: power(3, u), lambda u: power(-2, u)]


def twin(made):
    """The same word, told by its least rule."""
    return bulky_word(made.rule, mixture_lag(made._mixture))


def outcome(act, *values):
    """What the call tells of its result, or the kind of error that it raises."""
    try:
        made = act(*values)
    except LimitError as error:
        return type(error).__name__
    if hasattr(made, "rank"):
        return told(made)
    return made._machine.variables, made._machine.ways, made._machine.marks


def drawn_sum(chance, many):
    """A sum of multiples, now and then with digits shifted out or in."""
    made = chance.randint(-9, 9) * (NAMES[0] * 0 + 1)
    for one in NAMES[:many]:
        factor = chance.choice([0, 1, 1, 2, -1, -2, 3, 5, -4, 12])
        beside = one >> chance.randint(1, 3) if chance.random() < 0.15 else one
        made = made + factor * beside
    return made << chance.randint(0, 3) if chance.random() < 0.1 else made


def drawn_word(chance, many):
    made = drawn_sum(chance, many)
    while chance.random() < 0.5:
        try:
            made = chance.choice(SIGNS)(made, drawn_sum(chance, many))
        except LimitError:
            continue
        if chance.random() < 0.3:
            made = made + drawn_sum(chance, 1)
    return made


class Ways(unittest.TestCase):
    def setUp(self):
        self.chance = random.Random(31)

    def words(self, times):
        for _ in range(times):
            many = self.chance.choice([1, 2, 2, 2, 3])
            try:
                one, other = drawn_word(self.chance, many), drawn_word(self.chance, many)
                yield one, other, twin(one), twin(other)
            except LimitError:
                continue

    def test_sums_and_signs(self):
        for one, other, beside, against in self.words(40):
            for act in [operator.add, operator.sub, *SIGNS]:
                expected = outcome(act, beside, against)
                for first, second in ((one, other), (one, against), (beside, other)):
                    self.assertEqual(outcome(act, first, second), expected)
            for act in (operator.neg, operator.invert, lambda u: 6 * u, lambda u: u << 2, lambda u: -16 * u):
                self.assertEqual(outcome(act, one), outcome(act, beside))

    def test_orders(self):
        for one, other, beside, against in self.words(40):
            for act in ORDERS:
                expected = outcome(act, beside, against)
                self.assertEqual(outcome(act, one, other), expected)
                self.assertEqual(outcome(act, one, against), expected)
            number = self.chance.randint(-9, 9) * 10 ** self.chance.randint(0, 5)
            for act in ORDERS:
                self.assertEqual(outcome(act, one, number), outcome(act, beside, number))

    def test_rests(self):
        for one, _, beside, _ in self.words(30):
            for modulus in range(2, 13):
                rest = self.chance.randrange(modulus)
                self.assertEqual(outcome(rests, one, modulus, rest), outcome(rests, beside, modulus, rest))

    def test_measures(self):
        for one, _, beside, _ in self.words(14):
            for act in MEASURES:
                self.assertEqual(outcome(act, one), outcome(act, beside))

    def test_measures_of_sums_with_an_integer(self):
        for _ in range(12):
            one = NAMES[0] + self.chance.randrange(10 ** self.chance.randint(1, 6))
            for act in MEASURES:
                self.assertEqual(outcome(act, one), outcome(act, twin(one)))

    def test_values(self):
        for one, other, beside, against in self.words(30):
            for made, plain in ((one, beside), (other, against)):
                pairs = tuple((name, self.chance.randrange(10 ** self.chance.randint(1, 30)))
                              for name in ("k", "m", "n"))
                self.assertEqual(made.at(pairs), plain.at(pairs))
                self.assertEqual(formula(made).at(pairs), formula(plain).at(pairs))

    def test_both_ways_are_taken(self):
        m, n = NAMES[0], NAMES[1]
        self.assertFalse(is_bulky(((m + 2 * n) & (m - n))._mixture))
        self.assertFalse(is_bulky((m ^ m >> 1)._mixture))
        self.assertFalse(is_bulky(((m << 8) & n)._mixture))
        self.assertTrue(is_bulky((16 * (m << 8) & n)._mixture))


if __name__ == "__main__":
    unittest.main()

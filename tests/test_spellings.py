"""How words are told digit by digit, and the glance at ranks that goes by it."""

import unittest

from bitcounts.errors import TooMany
from bitcounts.glances import PRIME, look_at_line, look_at_rank, rows_to_try, tuples_to_try, worth
from bitcounts.mixed_rules import measured_system, mixture_system
from bitcounts.mixtures import mixture_lag
from bitcounts.pairings import joined_mixtures
from bitcounts.rows import applied, row_behind
from bitcounts.spellings import spelled
from bitcounts.walks import spelt
from bitcounts.words import var, word
from tests.brute import all_points
from tests.support import raised

M, N, K = var("m"), var("n"), var("k")


def spelling(made):
    return spelled(made.rule, mixture_lag(made._mixture))


def value(made, numbers):
    """The value of a word at these numbers of its names, by its spelling alone."""
    told = spelling(made)
    state, places, total = 0, told.known, told.low
    while any(numbers):
        index = int("0" + "".join(str(number & 1) for number in numbers), 2)
        state, factor, digit = told.steps[state][index]
        total += digit << places
        places += factor - 1
        numbers = [number >> 1 for number in numbers]
    return total + (told.worths[state][0] << places)


class Spellings(unittest.TestCase):
    def test_values(self):
        for made in (M, M + N, M - N, M & ~N, 3 * M - 7, (M << 8) + 5, (M >> 4) ^ N, 16 * (M << 8), M & 5, word(-37),
                     word(0), (M >> 3) - (N << 2), ((M << 4) & N) | 1):
            for numbers in all_points(len(made.names), 4 if made.names else 0):
                pairs = tuple(zip(made.names, numbers))
                self.assertEqual(value(made, numbers), made.at(pairs), (made.names, numbers))

    def test_states(self):
        self.assertEqual([len(spelling(factor * M).steps) for factor in (1, 3, 5, 15)], [1, 3, 5, 15])
        self.assertEqual([len(spelling(M << shift).steps) for shift in range(9)], [1] * 9)
        self.assertEqual([len(spelling(M >> shift).steps) for shift in range(5)], [1, 2, 3, 4, 5])
        self.assertEqual(len(spelling(16 * (M << 8) + 16 * (N << 8)).steps), 2)

    def test_digits_that_are_known(self):
        for made, known, low in ((M, 0, 0), (M << 3, 3, 0), ((M << 3) + 5, 3, 5), (16 * (M << 8) - 1, 12, 4095),
                                 ((M << 8) ^ (N << 2), 2, 0), ((M >> 4) << 8, 4, 0)):
            told = spelling(made)
            self.assertEqual((told.known, told.low), (known, low))

    def test_lags(self):
        words = (M, M >> 3, M << 3, 6 * M, M - M, word(5), (M >> 4) + N, (M << 2) | (N << 1), ~(M << 4), -(M << 4),
                 (M << 8) & 7, 3 + (M << 2))
        self.assertEqual([mixture_lag(made._mixture) for made in words if made.names], [0, 3, -3, -1, 4, -1, -4, -4, -2])


class Glances(unittest.TestCase):
    def test_rows_of_tuples(self):
        told = spelling(M * 3 - (N & 5) + 2)
        chain = tuples_to_try(4)
        points = [(0, 0)]
        for before, index in chain:
            points.append(tuple(2 * number + digit for number, digit in zip(points[before], divmod(index, 2))))
        self.assertGreater(len(set(points)), 200)
        values = [3 * m - (n & 5) + 2 for m, n in points]
        self.assertEqual(applied(rows_to_try(told.spans), told.worths[0]), values)
        self.assertEqual(tuples_to_try(1), [])

    def test_row_behind(self):
        side = [(((0, 1), (1, 1)), 2), (((1, 2),), 3)]
        self.assertEqual(row_behind((((0, 4), (1, 3)), 1), side), (((0, 2), (1, 4)), 1))
        self.assertEqual(row_behind((((0, 1), (1, 1)), 5), side), (((0, 3), (1, 7)), 30))
        self.assertEqual(row_behind((((0, 4), (1, -3)), 1), side), (((0, 2),), 1))
        self.assertEqual(row_behind(((), 1), side), ((), 1))

    def test_worth(self):
        self.assertEqual([worth(sign, 12, -7) for sign in "&|^"], [12 & -7, 12 | -7, 12 ^ -7])
        self.assertEqual([worth("ones", -12, 0), worth("length", -12, 0), worth("power", -12, -3)], [2, 4, 9])
        self.assertEqual([worth("ones", 0, 0), worth("length", 0, 0), worth("power", 0, 0)], [0, 0, 1])
        self.assertEqual(2 ** 61 - 1, PRIME)

    def test_ranks(self):
        for kind, one, other in (("&", M, N), ("^", M << 8, N), ("&", M << 5, 3 * N), ("ones", 15 * M, word(0)),
                                 ("length", M + N + K, word(0)), ("power", M - N, word(-3)), ("&", M, word(32767))):
            names = tuple(sorted({*one.names, *other.names}))
            self.assertIsNone(look_at_rank(kind, spelling(one), spelling(other), names))
        for kind, one, other in (("&", M << 6, 3 * N), ("ones", 15 * M + 4 * M, word(0)),
                                 ("length", 3 * M - 5 * N, word(0)), ("power", M + 1000, word(2)),
                                 ("&", M, word(65535)), ("^", M << 8, 3 * N)):
            names = tuple(sorted({*one.names, *other.names}))
            raised(self, TooMany, look_at_rank, kind, spelling(one), spelling(other), names)

    def test_lines_of_one_name(self):
        for one in (M ^ 5, 3 * M - 7, M + 10 ** 6, M & 32767):
            self.assertIsNone(look_at_line(mixture_system(one._mixture, one.names)))
        for number in (2 ** 17 - 1, 10 ** 6, 2 ** 19 + 2 ** 3):
            for sign in "&|^":
                mixture = joined_mixtures(sign, M._mixture, word(number)._mixture)
                raised(self, TooMany, look_at_line, mixture_system(mixture, ("m",)))
        for kind in ("ones", "length", 2, -1):
            small, great = spelt((M + 35)._mixture, 99), spelt((M + 999999)._mixture, 99)
            self.assertIsNone(look_at_line(measured_system(kind, small)))
            if kind != -1:
                raised(self, TooMany, look_at_line, measured_system(kind, great))


if __name__ == "__main__":
    unittest.main()

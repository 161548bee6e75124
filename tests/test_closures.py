import unittest

from bitcounts.closures import closure
from bitcounts.rules import widened
from bitcounts.words import formula, var

M, N = var("m"), var("n")


def points(made):
    """The labels at which a formula's basic parts tell all of their values."""
    rule = made.rule
    found, _ = closure(widened(rule, rule.variables), rule.starts, True, len(rule.starts))
    return [(places, label) for places, label, _ in found]


class Points(unittest.TestCase):
    def test_the_tuples_come_by_their_places_then_from_the_first_number_on(self):
        self.assertEqual(points(formula(0)), [])
        self.assertEqual(points(formula(5)), [(0, ())])
        self.assertEqual(points(M ** 3), [(0, (0,)), (1, (1,)), (2, (2,)), (2, (3,))])
        self.assertEqual(points(M + N), [(0, (0, 0)), (1, (0, 1))])
        self.assertEqual(points(M * N), [(0, (0, 0)), (1, (0, 1)), (1, (1, 0)), (1, (1, 1))])
        self.assertEqual(points(M + N * N), [(0, (0, 0)), (1, (0, 1)), (1, (1, 0)), (2, (0, 2))])

    def test_more_than_the_most(self):
        rule = (M ** 3).rule
        found, spans = closure(rule.sides, rule.starts, True, 4)
        self.assertEqual((len(found), len(spans)), (4, 2))
        self.assertEqual(closure(rule.sides, rule.starts, True, 3), (found[:3], None))


if __name__ == "__main__":
    unittest.main()

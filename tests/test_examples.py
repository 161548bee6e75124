"""The examples of the document whose functions exist, and those of README.md."""

import doctest
import unittest
from pathlib import Path

from bitcounts.certificates import certify_parting, certify_within, plain_machine, plain_rule
from bitcounts.checker import accepts
from bitcounts.conditions import always
from bitcounts.console import Console
from bitcounts.counting import length, one_if, ones, raised
from bitcounts.desks import Desk
from bitcounts.errors import Refused
from bitcounts.relations import new_tuples, parting, relations
from bitcounts.texts import read_formula, read_test, read_word
from bitcounts.totals import count, total
from bitcounts.words import formula, rests, same, var


class Examples(unittest.TestCase):
    def test_formulas(self):
        m, n = var("m"), var("n")
        f = m * n - n * (m + 1) + 2 * n
        shown = [f == n, f.names, f.of(n=7), (m * n).rank, (m * m).basis, formula(n).firsts, formula(n).equations,
                 (m + 1) ** 2 == m * m + 2 * m + 1]
        self.assertEqual(shown, [
            True, ("n",), 7, 4, ((0, (0,)), (1, (1,)), (2, (1,))), (0, 1),
            ((((2, 1), (0, 1)), ((0, 1), (1, 1))), (((2, 1), (1, 1)), ((-2, 1), (3, 1)))), True,
        ])

    def test_words(self):
        m, n = var("m"), var("n")
        shown = [m + n == (m ^ n) + 2 * (m & n), (m & ~n).of(m=12, n=10), (m - n).of(m=3, n=9), (m ^ m >> 1).of(m=6),
                 (m - m).names, (m + n).rank, (m & m - 1).of(m=0)]
        self.assertEqual(shown, [True, 4, -6, 5, (), 2, 0])

    def test_conditions(self):
        m, n = var("m"), var("n")
        apart = same(m & n, 0)
        shown = [apart == same(m + n, m | n), apart.of(m=5, n=2), (apart & (n < m)).least, rests(m, 3, 1).classes,
                 (m < 5).is_finite, ((m < n) | (m >= n)) == always(), apart <= (m <= n)]
        self.assertEqual(shown, [True, True, (("m", 1), ("n", 0)), 3, True, True, False])

    def test_counting(self):
        m, n = var("m"), var("n")
        carries = ones(m) + ones(n) - ones(m + n)
        shown = [carries.of(m=7, n=1), ones(m) + ones(n) == ones(m ^ n) + 2 * ones(m & n), length(m).of(m=9),
                 ones(-m) == ones(m), raised(2, m).of(m=5), one_if(m < n).of(m=1, n=4)]
        self.assertEqual(shown, [3, True, 4, True, 4, 1])

    def test_totals(self):
        m, n = var("m"), var("n")
        odd = count(same(m & (n - m), 0), "m", n + 1)
        shown = [odd == raised(2, n), odd.of(n=10), 2 * total(m, "m", n) == n * n - n, total(ones(m), "m", n).of(n=8),
                 total(1, "m", n - 3).of(n=2), total(m & n, "m", n).of(n=4)]
        self.assertEqual(shown, [True, 4, True, 12, 0, 0])

    def test_relations(self):
        m, n = var("m"), var("n")
        shown = [parting(m + n, m | n), parting(m, m), parting(ones(m), m), relations(m & n, m | n, m, n),
                 new_tuples(m + n), new_tuples(0)]
        self.assertEqual(shown, [
            (("m", 1), ("n", 1)), None, (("m", 2),), ((-1, -1, 1, 1),), ((0, 0), (0, 1)), ()])

    def test_texts(self):
        m, n = var("m"), var("n")
        shown = [read_word("((m ^ n) + (2 * (m & n)))") == m + n, read_formula("(ones(m) * (n - 1))").of(m=3, n=5),
                 read_test("((m < n) or (m == n))") == (m <= n)]
        self.assertEqual(shown, [True, 8, True])

    def test_desks(self):
        desk, m, n = Desk(), var("m"), var("n")
        done = desk.do_all(("keep", "sum", m + n), ("keep", "both", m & n), ("keep", "one", m ^ n),
                           ("claim", ((1, "sum"), (-2, "both"), (-1, "one"))))
        desk.undo(times=2)
        shown = [done, desk.names, desk.claims, desk["sum"].of(m=2, n=3), len(desk.history)]
        self.assertEqual(shown, [4, ("both", "sum"), (), 5, 2])

    def test_a_claim_that_is_refused(self):
        desk, m, n = Desk(), var("m"), var("n")
        self.assertEqual(desk.do_all(("keep", "a", m | n), ("keep", "b", m + n)), 2)
        with self.assertRaises(Refused) as caught:
            desk.claim(((1, "a"), (-1, "b")))
        self.assertEqual(caught.exception.index, 0)

    def test_certificates(self):
        m, n = var("m"), var("n")
        claim, paper = certify_parting(m + n, m | n)
        shown = [claim[0], claim[3], accepts(claim, paper), accepts(claim, ()), certify_within(m < n, m <= n)[0][0],
                 plain_machine(m < 1), plain_rule(formula(3))]
        self.assertEqual(shown, [
            "parting", (("m", 1), ("n", 1)), True, False, "within", (("m",), ((0, 1), (1, 1)), (True, False)),
            ((), ((((1, 1),),),), (3,), ((1, 1),))])

    def test_the_console(self):
        console = Console()
        shown = [console.say("s := (m + n)"), console.say("o := (m | n)"), console.say("s and o"),
                 console.say("where ((m & n) == 3)"), console.say("claim 1 s + -1 s")]
        self.assertEqual(shown, ["rank 2", "rank 2", "apart at m=1, n=1", "at m=3, n=3", "ok"])

    def test_readme(self):
        readme = Path(__file__).parent.parent / "README.md"
        done = doctest.testfile(str(readme), module_relative=False)
        self.assertEqual((done.failed, done.attempted > 0), (0, True))


if __name__ == "__main__":
    unittest.main()

"""The examples of the document whose functions exist, and those of README.md."""

import doctest
import unittest
from pathlib import Path

from bitcounts.words import formula, var


class Examples(unittest.TestCase):
    def test_formulas(self):
        m, n = var("m"), var("n")
        f = m * n - n * (m + 1) + 2 * n
        shown = [f == n, f.names, f.of(n=7), (m * n).rank, (m * m).basis, formula(n).firsts, formula(n).equations,
                 (m + 1) ** 2 == m * m + 2 * m + 1]
        self.assertEqual(shown, [
            True, ("n",), 7, 4, ((0, (0,)), (1, (1,)), (2, (1,))), (0, 1),
            ((((2, 1), (0, 1)), ((0, 1), (1, 1))), (((2, 1), (1, 1)), ((-2, 1), (3, 1)))), True,
        ])

    def test_words(self):
        m, n = var("m"), var("n")
        self.assertEqual([(m - n).of(m=3, n=9), (m - m).names, (m + n).rank], [-6, (), 2])

    def test_readme(self):
        readme = Path(__file__).parent.parent / "README.md"
        done = doctest.testfile(str(readme), module_relative=False)
        self.assertEqual((done.failed, done.attempted > 0), (0, True))


if __name__ == "__main__":
    unittest.main()

import unittest

from bitcounts import limits


class Limits(unittest.TestCase):
    def test_values(self):
        self.assertEqual([limits.RANK, limits.TOGETHER, limits.CLASSES, limits.NAMES], [16, 64, 256, 3])
        for value in (limits.RANK, limits.TOGETHER, limits.CLASSES, limits.NAMES):
            self.assertIs(type(value), int)


if __name__ == "__main__":
    unittest.main()

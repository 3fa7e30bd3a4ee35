"""choices.py: what point [13] says of chosen."""

import unittest

from bracketwords.choices import chosen
from tests.making import is_number

NUMBERS = list(range(-25, 26)) + [
    sign * (10 ** figures - less) for figures in (2, 9, 18, 29, 60) for less in (0, 1, 7) for sign in (1, -1)
]


class Chosen(unittest.TestCase):
    def test_ordinary(self):
        self.assertEqual([chosen(4, k) for k in range(6)], [1, 4, 6, 4, 1, 0])
        self.assertEqual([chosen(-1, k) for k in range(6)], [1, -1, 1, -1, 1, -1])
        self.assertEqual([chosen(-2, k) for k in range(6)], [1, -2, 3, -4, 5, -6])
        self.assertEqual(chosen(40, 20), 137846528820)
        self.assertEqual(chosen(10 ** 60, 2), 10 ** 60 * (10 ** 60 - 1) // 2)

    def test_by_its_words(self):
        for n in NUMBERS:
            above = below = 1
            for k in range(21):
                told = chosen(n, k)
                self.assertTrue(is_number(told))
                self.assertEqual(told * below, above, (n, k))
                above *= n - k
                below *= k + 1

    def test_edges(self):
        for n in NUMBERS:
            self.assertEqual(chosen(n, 0), 1)
            self.assertEqual(chosen(n, 1), n)
        for k in range(21):
            for n in range(k):
                self.assertEqual(chosen(n, k), 0)
            self.assertEqual(chosen(k, k), 1)


if __name__ == "__main__":
    unittest.main()

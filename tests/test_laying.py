"""laying.py: points [2] and [9]."""

import itertools
import unittest

from bracketwords.grounds import Ground
from bracketwords.laying import laid_together
from bracketwords.sums import scattered
from tests.making import check_handing, check_own_list, few_words, is_number, is_word, made_plain_words, made_words


def plain_words(letters, size):
    return list(itertools.product(range(1, letters + 1), repeat=size))


def all_pairs(letters, most):
    """All pairs of plain words of the letters, of at most so many letters together."""
    return [
        (one, other)
        for size in range(most + 1) for more in range(most + 1 - size)
        for one in plain_words(letters, size) for other in plain_words(letters, more)
    ]


def some_pairs():
    """Every pair of words of two letters, every short one of four, and longer ones of four."""
    longer = []
    for size in range(6):
        firsts = made_plain_words(4, [size] * 6, "one %d" % size)
        seconds = made_plain_words(4, [5 - size] * 6, "other %d" % size)
        longer.extend(zip(firsts, seconds))
        longer.append(((3,) * size, (3,) * (5 - size)))
        longer.append(((1, 2, 3, 4, 4)[:size], (1, 2, 3, 4, 4)[:5 - size]))
    return all_pairs(2, 5) + all_pairs(4, 3) + longer


def counted(one, other):
    """Point [9], by all pairs of choices of rising places that together take all places of a word."""
    found = {}
    for size in range(max(len(one), len(other)), len(one) + len(other) + 1):
        for first in itertools.combinations(range(size), len(one)):
            for second in itertools.combinations(range(size), len(other)):
                mine = dict(zip(first, one))
                yours = dict(zip(second, other))
                agree = all(mine[at] == yours[at] for at in mine if at in yours)
                if agree and len(mine.keys() | yours.keys()) == size:
                    word = tuple(mine[at] if at in mine else yours[at] for at in range(size))
                    found[word] = found.get(word, 0) + 1
    return sorted(found.items(), key=lambda pair: (len(pair[0]), pair[0]))


class LaidTogether(unittest.TestCase):
    def test_ordinary(self):
        self.assertEqual(laid_together((1,), (2,)), [((1, 2), 1), ((2, 1), 1)])
        self.assertEqual(laid_together((1,), (1,)), [((1,), 1), ((1, 1), 2)])
        self.assertEqual(laid_together((1, 2), (2,)), [((1, 2), 1), ((1, 2, 2), 2), ((2, 1, 2), 1)])
        self.assertEqual(laid_together((1, 2), (1, 2)), [
            ((1, 2), 1), ((1, 1, 2), 2), ((1, 2, 2), 2), ((1, 1, 2, 2), 4), ((1, 2, 1, 2), 2)
        ])

    def test_the_empty_word(self):
        self.assertEqual(laid_together((), ()), [((), 1)])
        for size in range(6):
            for word in plain_words(2, size) + made_plain_words(4, [size], "with nothing"):
                self.assertEqual(laid_together(word, ()), [(word, 1)])
                self.assertEqual(laid_together((), word), [(word, 1)])

    def test_against_all_choices(self):
        for one, other in some_pairs():
            self.assertEqual(laid_together(one, other), counted(one, other), (one, other))

    def test_the_other_way_about(self):
        for one, other in some_pairs():
            self.assertEqual(laid_together(one, other), laid_together(other, one))

    def test_order_and_kinds(self):
        for one, other in some_pairs():
            told = laid_together(one, other)
            self.assertIs(type(told), list)
            for pair in told:
                self.assertIs(type(pair), tuple)
                self.assertEqual(len(pair), 2)
                self.assertTrue(is_word(pair[0]) and is_number(pair[1]) and pair[1] > 0)
            keys = [(len(word), word) for word, times in told]
            self.assertEqual(keys, sorted(set(keys)))

    def test_tuples_and_lists(self):
        for one, other in some_pairs():
            told = check_handing(self, laid_together, one, other)
            self.assertEqual(laid_together(list(one), other), told)
            self.assertEqual(laid_together(one, list(other)), told)

    def test_the_very_list_twice_and_changed(self):
        word = [1, 2]
        self.assertEqual(laid_together(word, word), counted((1, 2), (1, 2)))
        word[0] = 2
        self.assertEqual(laid_together(word, word), counted((2, 2), (2, 2)))
        self.assertEqual(word, [2, 2])

    def test_told_lists_are_the_askers_own(self):
        for one, other in ((), ()), ((1,), ()), ((), (2, 2)), ((1, 2), (2,)), ((1, 1), (1, 1, 1)):
            check_own_list(self, laid_together, one, other)


class Products(unittest.TestCase):
    def check_products(self, ground, pairs, words):
        for word in words:
            sums = dict(zip(ground.words(), scattered(ground, word)))
            for one, other in pairs:
                expected = sum(times * sums[both] for both, times in laid_together(one, other))
                self.assertEqual(sums[one] * sums[other], expected, (word, one, other))

    def test_two_letters(self):
        ground = Ground(2, 5)
        words = few_words(ground) + made_words(2, [30, 60], "products")
        self.check_products(ground, all_pairs(2, 5), words)

    def test_more_letters(self):
        for letters, depth in ((1, 5), (3, 4), (4, 3)):
            ground = Ground(letters, depth)
            words = few_words(ground)[:8] + made_words(letters, [9, 60], "products")
            self.check_products(ground, all_pairs(letters, depth), words)


if __name__ == "__main__":
    unittest.main()

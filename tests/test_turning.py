"""turning.py: points [2], [4] and [5]."""

import itertools
import unittest

from bracketwords.turning import cut, halves, how_many, is_turnword, least_turn, turns, turnwords
from tests.making import check_handing, check_own_list, is_number, is_word, made_plain_words

SHORT = [word for size in range(0, 6) for word in itertools.product((1, 2, 3), repeat=size)]
LONG = (
    made_plain_words(4, range(1, 61), "four letters")
    + made_plain_words(2, range(1, 61), "two letters")
    + [(1,) * size for size in (2, 3, 59, 60)]
    + [(1, 2) * 30, (2, 1) * 30, (1, 1, 2) * 20, (4, 3, 2, 1) * 15, (1,) * 59 + (2,), (2,) + (1,) * 59]
)
PLAIN = SHORT + LONG


def turn_at(word, at):
    return tuple(word[(at + k) % len(word)] for k in range(len(word)))


def less_than_each_other_turn(word):
    """Point [4], word by word."""
    return len(word) > 0 and all(word < turn_at(word, at) for at in range(1, len(word)))


def walked_turnwords(letters, size):
    words = itertools.product(range(1, letters + 1), repeat=size)
    return [word for word in words if less_than_each_other_turn(word)]


TURNWORDS = [word for size in range(1, 7) for word in walked_turnwords(3, size)] + [
    least_turn(word) for word in LONG if is_turnword(least_turn(word))
]


class Handing(unittest.TestCase):
    def test_tuples_and_lists(self):
        for word in PLAIN:
            self.assertIs(type(check_handing(self, is_turnword, word)), bool)
            check_handing(self, cut, word)
            check_handing(self, turns, word)
            if word:
                self.assertTrue(is_word(check_handing(self, least_turn, word)))
        for word in TURNWORDS:
            if len(word) > 1:
                check_handing(self, halves, word)

    def test_told_lists_are_the_askers_own(self):
        for word in [(1,), (1, 2), (2, 1), (1, 1, 1), (3, 1, 2, 1)] + LONG[40:60]:
            for told in (check_own_list(self, turns, word), check_own_list(self, cut, word)):
                self.assertTrue(all(is_word(one) for one in told))
            check_own_list(self, turns, list(word))
            check_own_list(self, cut, list(word))
        check_own_list(self, cut, ())
        for letters, size in ((1, 1), (1, 2), (2, 1), (3, 4)):
            self.assertTrue(all(is_word(one) for one in check_own_list(self, turnwords, letters, size)))

    def test_halves_are_a_tuple(self):
        for handed in ((1, 1, 2), [1, 1, 2]):
            told = halves(handed)
            self.assertIs(type(told), tuple)
            self.assertTrue(all(is_word(one) for one in told))

    def test_a_list_changed_in_between(self):
        word = [1, 2]
        self.assertIs(is_turnword(word), True)
        word[0] = 2
        self.assertIs(is_turnword(word), False)
        self.assertEqual(cut(word), [(2,), (2,)])


class Turns(unittest.TestCase):
    def test_ordinary(self):
        self.assertEqual(turns((1, 2, 3)), [(1, 2, 3), (2, 3, 1), (3, 1, 2)])
        self.assertEqual(turns((4,)), [(4,)])
        self.assertEqual(turns((1, 2, 1, 2)), [(1, 2, 1, 2), (2, 1, 2, 1), (1, 2, 1, 2), (2, 1, 2, 1)])

    def test_by_their_places(self):
        for word in PLAIN:
            self.assertEqual(turns(word), [turn_at(word, at) for at in range(len(word))])

    def test_least_turn(self):
        self.assertEqual(least_turn((2, 1, 1)), (1, 1, 2))
        self.assertEqual(least_turn((4,)), (4,))
        for word in PLAIN:
            if word:
                told = least_turn(word)
                self.assertIn(told, turns(word))
                self.assertTrue(all(told <= turn for turn in turns(word)))


class IsTurnword(unittest.TestCase):
    def test_edges(self):
        self.assertIs(is_turnword(()), False)
        for letter in (1, 2, 3, 4):
            self.assertIs(is_turnword((letter,)), True)

    def test_a_shorter_word_repeated_is_none(self):
        for word in [(1,), (1, 2), (1, 1, 2), (1, 3, 2)]:
            self.assertIs(is_turnword(word), True)
            for times in (2, 3, 60 // len(word)):
                self.assertIs(is_turnword(word * times), False)

    def test_by_its_turns(self):
        for word in PLAIN:
            self.assertIs(is_turnword(word), less_than_each_other_turn(word), word)

    def test_a_least_turn_and_each_other_turn_of_it(self):
        for word in LONG:
            around = turns(least_turn(word))
            once = around.count(around[0]) == 1
            self.assertIs(is_turnword(around[0]), once)
            for other in around[1:]:
                self.assertIs(is_turnword(other), False)


class Turnwords(unittest.TestCase):
    def test_ordinary(self):
        self.assertEqual(turnwords(2, 1), [(1,), (2,)])
        self.assertEqual(turnwords(2, 4), [(1, 1, 1, 2), (1, 1, 2, 2), (1, 2, 2, 2)])
        self.assertEqual(turnwords(1, 1), [(1,)])
        self.assertEqual(turnwords(1, 2), [])

    def test_against_all_words(self):
        for letters in range(1, 5):
            for size in range(1, 6):
                told = turnwords(letters, size)
                self.assertEqual(told, walked_turnwords(letters, size))
                self.assertEqual(told, sorted(set(told)))
                count = how_many(letters, size)
                self.assertTrue(is_number(count))
                self.assertEqual(count, len(told))

    def test_how_many(self):
        self.assertEqual([how_many(2, size) for size in range(1, 9)], [2, 1, 2, 3, 6, 9, 18, 30])
        self.assertEqual([how_many(1, size) for size in (1, 2, 3, 60)], [1, 0, 0, 0])

    def test_how_many_by_divisors(self):
        for letters in range(1, 10):
            for size in range(1, 61):
                divisors = [part for part in range(1, size + 1) if size % part == 0]
                for part in divisors:
                    self.assertTrue(is_number(how_many(letters, part)))
                self.assertEqual(sum(part * how_many(letters, part) for part in divisors), letters ** size)


class Cut(unittest.TestCase):
    def test_ordinary(self):
        self.assertEqual(cut(()), [])
        self.assertEqual(cut((2, 1, 2, 1, 1)), [(2,), (1, 2), (1,), (1,)])
        self.assertEqual(cut((1, 2, 1, 2)), [(1, 2), (1, 2)])

    def test_a_turnword_is_left_whole(self):
        for word in TURNWORDS:
            self.assertEqual(cut(word), [word])

    def test_falling_turnwords_are_found_again(self):
        falling = sorted([word for word in TURNWORDS if len(word) < 6], reverse=True)
        for start in range(0, len(falling) - 6, 5):
            for step in (1, 2):
                pieces = falling[start:start + 6:step]
                self.assertEqual(cut(sum(pieces, ())), pieces)
                alike = [piece for piece in pieces for time in (1, 2)]
                self.assertEqual(cut(sum(alike, ())), alike)

    def test_any_plain_word(self):
        for word in PLAIN:
            pieces = cut(word)
            self.assertEqual(sum(pieces, ()), word)
            self.assertTrue(all(less_than_each_other_turn(piece) for piece in pieces))
            for at in range(len(pieces) - 1):
                self.assertGreaterEqual(pieces[at], pieces[at + 1])


class Halves(unittest.TestCase):
    def test_ordinary(self):
        self.assertEqual(halves((1, 2)), ((1,), (2,)))
        self.assertEqual(halves((1, 1, 2)), ((1,), (1, 2)))
        self.assertEqual(halves((1, 2, 2)), ((1, 2), (2,)))
        self.assertEqual(halves((1, 1, 2, 1, 2)), ((1, 1, 2), (1, 2)))
        self.assertEqual(halves((1, 2, 1, 3)), ((1, 2), (1, 3)))

    def test_of_turnwords(self):
        for word in TURNWORDS:
            if len(word) > 1:
                first, second = halves(word)
                self.assertEqual(first + second, word)
                self.assertTrue(less_than_each_other_turn(second))
                for start in range(1, len(first)):
                    self.assertFalse(less_than_each_other_turn(word[start:]))
                self.assertTrue(less_than_each_other_turn(first))
                self.assertLess(first, second)


if __name__ == "__main__":
    unittest.main()

"""grounds.py: points [2] and [6]."""

import itertools
import unittest

from bracketwords.errors import BracketError, NoGround, NoPlace
from bracketwords.grounds import Ground
from bracketwords.turning import halves, is_turnword
from bracketwords.words import bracketed
from tests.making import PAIRS, check_handing, check_own_list, is_number, is_word


def walked_words(letters, depth):
    return [
        word for size in range(depth + 1) for word in itertools.product(range(1, letters + 1), repeat=size)
    ]


def each_ground():
    return [(Ground(letters, depth), letters, depth) for letters, depth in PAIRS]


class Making(unittest.TestCase):
    def check_refused(self, letters, depth):
        with self.assertRaises(BracketError) as caught:
            Ground(letters, depth)
        self.assertIs(type(caught.exception), NoGround)

    def test_every_small_pair(self):
        for letters in range(-2, 8):
            for depth in range(-2, 8):
                if (letters, depth) in PAIRS:
                    ground = Ground(letters, depth)
                    self.assertEqual((ground.letters(), ground.depth()), (letters, depth))
                    self.assertTrue(is_number(ground.letters()) and is_number(ground.depth()))
                else:
                    self.check_refused(letters, depth)

    def test_great_numbers(self):
        great = [sign * number for number in (99, 10 ** 18, 2 ** 64 + 2, 10 ** 59 + 1, 10 ** 60 - 1) for sign in (1, -1)]
        # A number that Python does not write out is refused in the same way.
        great.extend([10 ** 5000, -10 ** 5000])
        for number in great:
            for small in (-1, 0, 1, 2, 3, 4, 5):
                self.check_refused(number, small)
                self.check_refused(small, number)
            self.check_refused(number, number)

    def test_two_grounds_by_turns(self):
        grounds = each_ground()
        for time in (1, 2):
            for ground, letters, depth in grounds:
                self.assertEqual((ground.letters(), ground.depth()), (letters, depth))
                self.assertEqual(ground.words(), walked_words(letters, depth))

    def test_a_refusal_changes_no_other_ground(self):
        ground = Ground(2, 3)
        self.check_refused(2, 6)
        with self.assertRaises(NoPlace):
            ground.place_of((2, 1))
        self.assertEqual((ground.letters(), ground.depth(), ground.places()), (2, 3, 5))


class Lists(unittest.TestCase):
    def test_ordinary(self):
        ground = Ground(2, 2)
        self.assertEqual(ground.words(), [(), (1,), (2,), (1, 1), (1, 2), (2, 1), (2, 2)])
        self.assertEqual(ground.turnwords(), [(1,), (2,), (1, 2)])

    def test_words(self):
        for ground, letters, depth in each_ground():
            told = ground.words()
            self.assertEqual(told, walked_words(letters, depth))
            self.assertTrue(all(is_word(word) for word in told))

    def test_turnwords(self):
        for ground, letters, depth in each_ground():
            told = ground.turnwords()
            self.assertEqual(told, [word for word in walked_words(letters, depth) if is_turnword(word)])
            self.assertTrue(all(is_word(word) for word in told))

    def test_how_many_places(self):
        self.assertEqual([Ground(2, depth).places() for depth in range(1, 6)], [2, 3, 5, 8, 14])
        self.assertEqual([Ground(1, depth).places() for depth in range(1, 6)], [1, 1, 1, 1, 1])
        self.assertEqual(Ground(3, 4).places(), 32)
        self.assertEqual(Ground(4, 3).places(), 30)

    def test_told_lists_are_the_askers_own(self):
        for ground, letters, depth in each_ground():
            check_own_list(self, ground.words)
            check_own_list(self, ground.turnwords)
            twin = Ground(letters, depth)
            self.assertIsNot(ground.words(), twin.words())
            ground.words().clear()
            ground.turnwords().clear()
            self.assertEqual(ground.words(), twin.words())
            self.assertEqual(ground.places(), len(twin.turnwords()))


class Places(unittest.TestCase):
    def test_they_go_with_the_turnwords(self):
        for ground, letters, depth in each_ground():
            words = ground.turnwords()
            self.assertEqual(ground.places(), len(words))
            self.assertTrue(is_number(ground.places()))
            for place, word in enumerate(words):
                self.assertEqual(ground.word_at(place), word)
                self.assertTrue(is_word(ground.word_at(place)))
                self.assertEqual(ground.size_at(place), len(word))
                self.assertTrue(is_number(ground.size_at(place)))
                self.assertEqual(check_handing(self, ground.place_of, word), place)
                self.assertTrue(is_number(ground.place_of(word)))

    def test_other_words_have_no_place(self):
        for ground, letters, depth in each_ground():
            held = ground.turnwords()
            longer = [(1,) * 6, (1,) * 5 + (2,), (1, 2, 3, 4, 4, 4), (1,) * 59 + (2,), (9,), (1, 7)]
            for word in walked_words(4, 5) + longer:
                if word not in held:
                    for handed in (word, list(word)):
                        with self.assertRaises(BracketError) as caught:
                            ground.place_of(handed)
                        self.assertIs(type(caught.exception), NoPlace)
                        self.assertEqual(handed, type(handed)(word))

    def test_the_very_list_changed(self):
        ground = Ground(2, 2)
        word = [1]
        self.assertEqual(ground.place_of(word), 0)
        word.append(2)
        self.assertEqual(ground.place_of(word), 2)
        word.reverse()
        with self.assertRaises(NoPlace):
            ground.place_of(word)


class Brackets(unittest.TestCase):
    def test_ordinary(self):
        ground = Ground(2, 3)
        self.assertEqual([ground.parts_at(place) for place in range(5)], [None, None, (0, 1), (0, 2), (2, 1)])
        self.assertEqual(ground.bracket_at(1), (2,))
        self.assertEqual(ground.bracket_at(2), (-1, -2, 1, 2))
        self.assertEqual(ground.bracket_at(3), (-1, -2, -1, 2, 1, 1, -1, -2, 1, 2))
        self.assertEqual(ground.bracket_at(4), (-2, -1, 2, 1, -2, -1, -2, 1, 2, 2))

    def test_parts(self):
        for ground, letters, depth in each_ground():
            for place, word in enumerate(ground.turnwords()):
                told = ground.parts_at(place)
                if len(word) == 1:
                    self.assertIsNone(told)
                else:
                    self.assertIs(type(told), tuple)
                    self.assertTrue(all(is_number(part) for part in told))
                    first, second = halves(word)
                    self.assertEqual(told, (ground.place_of(first), ground.place_of(second)))

    def test_brackets(self):
        for ground, letters, depth in each_ground():
            expected = []
            for place in range(ground.places()):
                parts = ground.parts_at(place)
                if parts is None:
                    expected.append(ground.word_at(place))
                else:
                    expected.append(bracketed(expected[parts[0]], expected[parts[1]]))
            told = [ground.bracket_at(place) for place in range(ground.places())]
            self.assertEqual(told, expected)
            self.assertTrue(all(is_word(word) for word in told))

    def test_in_another_order(self):
        for ground, letters, depth in each_ground():
            fresh = Ground(letters, depth)
            for place in reversed(range(ground.places())):
                ground.turnwords().reverse()
                self.assertEqual(fresh.bracket_at(place), ground.bracket_at(place))
                self.assertEqual(fresh.parts_at(place), ground.parts_at(place))
                self.assertEqual(fresh.word_at(place), ground.word_at(place))


if __name__ == "__main__":
    unittest.main()

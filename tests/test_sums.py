"""sums.py: points [1], [2], [7] and [8]."""

import itertools
import random
import unittest

from bracketwords.choices import chosen
from bracketwords.grounds import Ground
from bracketwords.sums import scattered, sums_backed, sums_joined, sums_repeated
from bracketwords.words import backed, joined, repeated, shortened
from tests.making import (
    all_shapes, check_handing, check_own_list, each_ground, empty_sums, few_words, is_number, made_plain_words, made_words
)

GREAT = [10 ** 29, -10 ** 29, 10 ** 29 - 12345, 3 - 10 ** 28, 10 ** 9 + 7, 1, 0, -1]


def walked_sums(ground, word):
    """Point [7], way by way."""
    counts = {known: 0 for known in ground.words()}

    def walk(start, spelled, sign):
        counts[spelled] += sign
        if len(spelled) < ground.depth():
            for at in range(start, len(word)):
                if word[at] > 0:
                    walk(at + 1, spelled + (word[at],), sign)
                else:
                    walk(at, spelled + (-word[at],), -sign)

    walk(0, (), 1)
    return [counts[known] for known in ground.words()]


class Handing(unittest.TestCase):
    def test_tuples_and_lists(self):
        for ground in each_ground():
            for word in few_words(ground)[4:12]:
                told = check_handing(self, scattered, ground, word)
                self.assertIs(type(told), list)
                self.assertTrue(all(is_number(number) for number in told))
                one = tuple(told)
                other = tuple(scattered(ground, (1, -1, 1, 1)))
                for made in (
                    check_handing(self, sums_joined, ground, one, other),
                    check_handing(self, sums_backed, ground, one),
                    check_handing(self, sums_repeated, ground, one, 10 ** 60 - 1),
                ):
                    self.assertIs(type(made), list)
                    self.assertTrue(all(is_number(number) for number in made))

    def test_told_lists_are_the_askers_own(self):
        for ground in each_ground():
            for word in ((), (1,), (1, -1), (-1, 1, 1)):
                one = check_own_list(self, scattered, ground, word)
                check_own_list(self, sums_joined, ground, one, one)
                check_own_list(self, sums_joined, ground, one, empty_sums(ground))
                check_own_list(self, sums_backed, ground, one)
                for n in (-1, 0, 1, 2):
                    check_own_list(self, sums_repeated, ground, one, n)

    def test_the_ground_stays(self):
        ground = Ground(2, 3)
        told = scattered(ground, (1, -2, 1))
        sums_joined(ground, told, told)
        sums_repeated(ground, told, 10 ** 50)
        self.assertEqual(ground.words(), Ground(2, 3).words())
        self.assertEqual(ground.turnwords(), Ground(2, 3).turnwords())

    def test_the_very_list_changed(self):
        for ground in each_ground():
            word = [1, -1, 1]
            self.assertEqual(scattered(ground, word), walked_sums(ground, (1, -1, 1)))
            word[1] = 1
            self.assertEqual(scattered(ground, word), walked_sums(ground, (1, 1, 1)))
            word.append(-ground.letters())
            self.assertEqual(scattered(ground, word), walked_sums(ground, tuple(word)))

    def test_other_sums_laid_into_the_very_lists(self):
        for ground in each_ground():
            words = made_words(ground.letters(), [6, 9, 4, 11], "laid in")
            first, second, third, fourth = [scattered(ground, word) for word in words]
            one, other = list(first), list(second)
            self.assertEqual(sums_joined(ground, one, other), scattered(ground, joined(words[0], words[1])))
            one[:], other[:] = third, fourth
            self.assertEqual(sums_joined(ground, one, other), scattered(ground, joined(words[2], words[3])))
            self.assertEqual(sums_backed(ground, one), scattered(ground, backed(words[2])))
            self.assertEqual(sums_repeated(ground, one, 3), scattered(ground, words[2] * 3))
            one[:] = first
            self.assertEqual(sums_backed(ground, one), scattered(ground, backed(words[0])))
            self.assertEqual(sums_repeated(ground, one, 3), scattered(ground, words[0] * 3))

    def test_two_grounds_by_turns(self):
        small, large = Ground(2, 2), Ground(2, 4)
        word = (1, -2, 2, -1, -1)
        for time in (1, 2):
            self.assertEqual(scattered(small, word), walked_sums(small, word))
            self.assertEqual(scattered(large, word), walked_sums(large, word))


class Scattered(unittest.TestCase):
    def test_ordinary(self):
        ground = Ground(2, 2)
        self.assertEqual(scattered(ground, (1, 2)), [1, 1, 1, 0, 1, 0, 0])
        self.assertEqual(scattered(ground, (-1,)), [1, -1, 0, 1, 0, 0, 0])
        self.assertEqual(scattered(ground, (-1, -2, 1, 2)), [1, 0, 0, 0, 1, -1, 0])

    def test_the_empty_word(self):
        for ground in each_ground():
            self.assertEqual(scattered(ground, ()), empty_sums(ground))
            self.assertEqual(scattered(ground, []), empty_sums(ground))

    def test_against_all_ways(self):
        for ground in each_ground():
            for word in few_words(ground) + made_words(ground.letters(), [16, 20], "ways"):
                self.assertEqual(scattered(ground, word), walked_sums(ground, word))

    def test_sixty_steps_against_all_ways(self):
        for ground in each_ground():
            if ground.depth() < 5:
                for word in made_words(ground.letters(), [60], "sixty") + [(-1,) * 60]:
                    self.assertEqual(scattered(ground, word), walked_sums(ground, word))

    def test_sixty_steps_at_the_greatest_depth(self):
        ground = Ground(2, 5)
        word = made_words(2, [60], "deep")[0]
        self.assertEqual(scattered(ground, word), walked_sums(ground, word))

    def test_plain_words(self):
        for ground in each_ground():
            for word in made_plain_words(ground.letters(), [1, 2, 6, 14], "plain"):
                found = {}
                for size in range(ground.depth() + 1):
                    for choice in itertools.combinations(word, size):
                        found[choice] = found.get(choice, 0) + 1
                self.assertEqual(scattered(ground, word), [found.get(known, 0) for known in ground.words()])


class Alike(unittest.TestCase):
    def test_a_word_and_its_shortened_one(self):
        for ground in each_ground():
            for word in few_words(ground) + made_words(ground.letters(), [30, 60], "shortened"):
                self.assertEqual(scattered(ground, word), scattered(ground, shortened(word)))

    def test_a_word_with_its_backed_one(self):
        for ground in each_ground():
            for word in few_words(ground) + made_words(ground.letters(), [30], "backed"):
                self.assertEqual(scattered(ground, joined(word, backed(word))), empty_sums(ground))
                self.assertEqual(scattered(ground, joined(backed(word), word)), empty_sums(ground))

    def test_deep_brackets_count_as_nothing(self):
        for ground in each_ground():
            leaves = made_words(ground.letters(), [1, 2, 1, 3, 1, 2][:ground.depth() + 1], "leaves")
            letters = [(1 + at % ground.letters(),) for at in range(ground.depth() + 1)]
            around = made_words(ground.letters(), [7], "around")[0]
            for deep in all_shapes(leaves) + all_shapes(letters):
                self.assertEqual(scattered(ground, deep), empty_sums(ground))
                for at in (0, 3, 7):
                    put_in = around[:at] + deep + around[at:]
                    self.assertEqual(scattered(ground, put_in), scattered(ground, around))

    def test_less_deep_brackets_count(self):
        for ground in each_ground():
            for place in range(ground.places()):
                told = scattered(ground, ground.bracket_at(place))
                first = [word for word, number in zip(ground.words(), told) if word and number][0]
                self.assertEqual(first, ground.word_at(place))


class Reckoned(unittest.TestCase):
    def test_joined(self):
        for ground in each_ground():
            words = few_words(ground)[4:]
            known = [scattered(ground, word) for word in words]
            for one, first in zip(words, known):
                for other, second in zip(words, known):
                    self.assertEqual(sums_joined(ground, first, second), scattered(ground, joined(one, other)))

    def test_joined_with_the_empty_word(self):
        for ground in each_ground():
            none = empty_sums(ground)
            for word in few_words(ground):
                known = scattered(ground, word)
                self.assertEqual(sums_joined(ground, known, none), known)
                self.assertEqual(sums_joined(ground, none, known), known)

    def test_backed(self):
        for ground in each_ground():
            for word in few_words(ground) + made_words(ground.letters(), [60], "backed"):
                known = scattered(ground, word)
                self.assertEqual(sums_backed(ground, known), scattered(ground, backed(word)))
                self.assertEqual(sums_joined(ground, known, sums_backed(ground, known)), empty_sums(ground))

    def test_repeated_by_small_numbers(self):
        for ground in each_ground():
            for word in few_words(ground):
                known = scattered(ground, word)
                for n in (0, 1, 2, -1, -2, 3, -3, 5, 7, -8):
                    expected = scattered(ground, repeated(word, n))
                    self.assertEqual(sums_repeated(ground, known, n), expected)

    def test_repeated_by_two_great_numbers(self):
        for ground in each_ground():
            for word in made_words(ground.letters(), [5, 60], "great"):
                known = scattered(ground, word)
                told = {n: sums_repeated(ground, known, n) for n in GREAT}
                for n in GREAT:
                    for more in GREAT:
                        both = sums_joined(ground, told[n], told[more])
                        self.assertEqual(both, sums_repeated(ground, known, n + more))
                        behind = sums_repeated(ground, told[n], more)
                        self.assertEqual(behind, sums_repeated(ground, known, n * more))

    def test_a_letter_by_great_numbers(self):
        for ground in each_ground():
            for letter in range(1, ground.letters() + 1):
                known = scattered(ground, (letter,))
                for n in GREAT + [10 ** 60, -10 ** 60, 10 ** 60 - 1, 1 - 10 ** 60, 6, -6]:
                    expected = [
                        chosen(n, len(word)) if set(word) <= {letter} else 0 for word in ground.words()
                    ]
                    self.assertEqual(sums_repeated(ground, known, n), expected)

    def test_joined_sums_of_words_repeated_very_often(self):
        # a to the n, then b to the m: each word of a's, then b's, is chosen part by part.
        source = random.Random("very often")
        for ground in each_ground():
            if ground.letters() > 1:
                for time in range(4):
                    n, m = [source.randrange(-10 ** 60, 10 ** 60 + 1) for side in (1, 2)]
                    one = sums_repeated(ground, scattered(ground, (1,)), n)
                    other = sums_repeated(ground, scattered(ground, (2,)), m)
                    expected = [
                        chosen(n, word.count(1)) * chosen(m, word.count(2))
                        if word == (1,) * word.count(1) + (2,) * word.count(2) else 0
                        for word in ground.words()
                    ]
                    self.assertEqual(sums_joined(ground, one, other), expected)


if __name__ == "__main__":
    unittest.main()

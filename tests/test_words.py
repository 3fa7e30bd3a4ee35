"""words.py: points [1], [2] and [3]."""

import random
import unittest

from bracketwords.words import backed, bracketed, joined, repeated, shortened
from tests.making import check_handing, is_word, made_words

SOME = [(), (1,), (-4,), (1, 2, 3, 4), (-1, -2, -3, -4), (1, -1), (4, -3, 2, -1, 1)]
MANY = SOME + made_words(4, [2, 3, 5, 8, 13, 21, 34, 60], "words") + made_words(1, [4, 9, 60], "one letter")
LONG = [
    repeated((1, -2, 3), 200),
    repeated((2, -4), -300),
    repeated((1, 2, -1, -2) * 15, 10),
    joined(repeated((1, 2), 150), repeated((1, 2), -150)),
]


def taken_out_somewhere(word, source):
    """shortened, by taking out one pair at a time, whichever chance picks."""
    while True:
        pairs = [at for at in range(len(word) - 1) if word[at] + word[at + 1] == 0]
        if not pairs:
            return word
        at = source.choice(pairs)
        word = word[:at] + word[at + 2:]


class Handing(unittest.TestCase):
    def test_words_of_each_function(self):
        for word in MANY + LONG:
            self.assertTrue(is_word(check_handing(self, backed, word)))
            self.assertTrue(is_word(check_handing(self, shortened, word)))
            for n in (-2, -1, 0, 1, 3):
                self.assertTrue(is_word(check_handing(self, repeated, word, n)))

    def test_two_words(self):
        for one in MANY + LONG:
            for other in MANY:
                self.assertTrue(is_word(check_handing(self, joined, one, other)))
                self.assertTrue(is_word(check_handing(self, bracketed, one, other)))

    def test_a_tuple_with_a_list(self):
        self.assertEqual(joined((1, 2), [3]), (1, 2, 3))
        self.assertEqual(joined([1, 2], (3,)), (1, 2, 3))
        self.assertEqual(bracketed((1,), [2]), (-1, -2, 1, 2))
        self.assertEqual(bracketed([1], (2,)), (-1, -2, 1, 2))

    def test_the_same_list_twice(self):
        word = [1, -2]
        self.assertEqual(joined(word, word), (1, -2, 1, -2))
        self.assertEqual(bracketed(word, word), (2, -1, 2, -1, 1, -2, 1, -2))
        self.assertEqual(word, [1, -2])

    def test_a_list_changed_in_between(self):
        word = [1, 2]
        self.assertEqual(backed(word), (-2, -1))
        word[0] = 3
        self.assertEqual(backed(word), (-2, -3))


class Backed(unittest.TestCase):
    def test_ordinary(self):
        self.assertEqual(backed((1, 2, 3, 4)), (-4, -3, -2, -1))
        self.assertEqual(backed((-1, 2, -3, 4)), (-4, 3, -2, 1))

    def test_one_step_and_none(self):
        for step in (1, 2, 3, 4, -1, -2, -3, -4):
            self.assertEqual(backed((step,)), (-step,))
        self.assertEqual(backed(()), ())

    def test_step_by_step(self):
        for word in MANY + LONG:
            told = backed(word)
            self.assertEqual(len(told), len(word))
            for at, step in enumerate(told):
                self.assertEqual(step, -word[len(word) - 1 - at])

    def test_twice(self):
        for word in MANY + LONG:
            self.assertEqual(backed(backed(word)), word)


class Joined(unittest.TestCase):
    def test_nothing_is_taken_out(self):
        self.assertEqual(joined((1, 2), (-2, -1)), (1, 2, -2, -1))
        self.assertEqual(joined((1, -1), (2,)), (1, -1, 2))

    def test_with_the_empty_word(self):
        self.assertEqual(joined((), ()), ())
        for word in MANY + LONG:
            self.assertEqual(joined(word, ()), word)
            self.assertEqual(joined((), word), word)

    def test_beginning_and_end(self):
        for one in MANY:
            for other in MANY + LONG:
                told = joined(one, other)
                self.assertEqual(len(told), len(one) + len(other))
                self.assertEqual(told[:len(one)], one)
                self.assertEqual(told[len(one):], other)


class Shortened(unittest.TestCase):
    def test_pairs_either_way_about(self):
        self.assertEqual(shortened((1, -1)), ())
        self.assertEqual(shortened((-1, 1)), ())
        self.assertEqual(shortened((2, 1, -1, 3)), (2, 3))
        self.assertEqual(shortened((2, -4, 4, 3)), (2, 3))

    def test_pairs_beside_one_another(self):
        self.assertEqual(shortened((1, -1, 2, -2)), ())
        self.assertEqual(shortened((1, -1, -1, 1, 3)), (3,))
        self.assertEqual(shortened((1, -1, 1)), (1,))
        self.assertEqual(shortened((-1, 1, -1)), (-1,))

    def test_pairs_within_one_another(self):
        self.assertEqual(shortened((1, 2, -2, -1)), ())
        self.assertEqual(shortened((3, 1, -2, -4, 4, 2, -1, 3)), (3, 3))

    def test_nothing_to_take_out(self):
        for word in ((), (1,), (-1,), (1, 1), (-1, -1), (1, -2), (1, 2, -1, -2), (1, 2, 1)):
            self.assertEqual(shortened(word), word)

    def test_in_whatever_order(self):
        source = random.Random("orders")
        for word in MANY + LONG[:1] + LONG[3:]:
            for attempt in range(3):
                self.assertEqual(shortened(word), taken_out_somewhere(word, source))

    def test_again(self):
        for word in MANY + LONG:
            told = shortened(word)
            self.assertEqual(shortened(told), told)
            for at in range(len(told) - 1):
                self.assertNotEqual(told[at] + told[at + 1], 0)


class Repeated(unittest.TestCase):
    def test_ordinary(self):
        self.assertEqual(repeated((1, -2), 3), (1, -2, 1, -2, 1, -2))
        self.assertEqual(repeated((1, -2), -3), (2, -1, 2, -1, 2, -1))
        self.assertEqual(repeated((1, -1), 2), (1, -1, 1, -1))

    def test_by_0_1_and_back(self):
        for word in MANY + LONG:
            self.assertEqual(repeated(word, 0), ())
            self.assertEqual(repeated(word, 1), word)
            self.assertEqual(repeated(word, -1), backed(word))

    def test_the_empty_word(self):
        for n in (-600, -1, 0, 1, 600):
            self.assertEqual(repeated((), n), ())

    def test_up_to_600_steps(self):
        for word, n in (((3,), 600), ((-3,), 600), ((1, -4), 300), ((1, 2, -3), 200), (MANY[14], 10)):
            expected = ()
            for time in range(n):
                expected = expected + word
            self.assertEqual(len(expected), 600)
            self.assertEqual(repeated(word, n), expected)
            self.assertEqual(repeated(word, -n), backed(expected))


class Bracketed(unittest.TestCase):
    def test_ordinary(self):
        self.assertEqual(bracketed((1,), (2,)), (-1, -2, 1, 2))
        self.assertEqual(bracketed((1, 2), (-3,)), (-2, -1, 3, 1, 2, -3))
        self.assertEqual(bracketed((1,), bracketed((1,), (2,))), (-1, -2, -1, 2, 1, 1, -1, -2, 1, 2))

    def test_the_other_way_about(self):
        self.assertEqual(bracketed((2,), (1,)), (-2, -1, 2, 1))

    def test_nothing_is_taken_out(self):
        self.assertEqual(bracketed((1,), (1,)), (-1, -1, 1, 1))
        self.assertEqual(bracketed((1,), (-1,)), (-1, 1, 1, -1))
        self.assertEqual(bracketed((), ()), ())
        for word in MANY + LONG:
            self.assertEqual(bracketed(word, word), joined(repeated(word, -2), repeated(word, 2)))
            self.assertEqual(bracketed(word, backed(word)), backed(word) + word + word + backed(word))
            self.assertEqual(bracketed(word, ()), backed(word) + word)
            self.assertEqual(bracketed((), word), backed(word) + word)

    def test_of_two_words(self):
        for one in MANY:
            for other in MANY + LONG:
                self.assertEqual(bracketed(one, other), backed(one) + backed(other) + one + other)


class Together(unittest.TestCase):
    def test_a_word_with_its_backed_one_comes_to_nothing(self):
        for word in MANY + LONG:
            self.assertEqual(shortened(joined(word, backed(word))), ())
            self.assertEqual(shortened(joined(backed(word), word)), ())

    def test_the_bracket_exchanges(self):
        for one in MANY:
            for other in MANY:
                exchanged = joined(joined(other, one), bracketed(one, other))
                self.assertEqual(shortened(exchanged), shortened(joined(one, other)))

    def test_the_bracket_the_other_way_about_is_the_backed_one(self):
        for one in MANY:
            for other in MANY:
                self.assertEqual(shortened(bracketed(other, one)), shortened(backed(bracketed(one, other))))

    def test_so_often_and_so_often_more(self):
        for word in MANY:
            for n in (-5, -1, 0, 1, 2, 5):
                for more in (-4, -1, 0, 1, 5):
                    both = joined(repeated(word, n), repeated(word, more))
                    self.assertEqual(shortened(both), shortened(repeated(word, n + more)))


if __name__ == "__main__":
    unittest.main()

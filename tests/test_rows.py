"""rows.py: points [1], [2], [10] and [11]."""

import itertools
import random
import unittest

from bracketwords.errors import TooLong
from bracketwords.grounds import Ground
from bracketwords.laying import laid_together
from bracketwords.rows import row_by, row_of, spelled, sums_of, unlike_at
from bracketwords.sums import scattered, sums_joined, sums_repeated
from bracketwords.words import backed, bracketed, joined, repeated, shortened
from tests.making import (
    all_shapes, check_handing, check_own_list, check_refused, deep_row, each_ground, empty_sums, few_words, is_number,
    is_row, is_word, made_rows, made_words
)

GREAT = 10 ** 60 - 1


def some_words(ground):
    return few_words(ground) + made_words(ground.letters(), [17, 30, 59, 60, 60], "rows")


def steps_of(ground, row):
    """How many steps the row's word has."""
    return sum(abs(n) * len(ground.bracket_at(place)) for place, n in enumerate(row))


def word_of(ground, row):
    """Point [10]: the powers of the places' brackets, however many steps they have."""
    word = ()
    for place, n in enumerate(row):
        word = joined(word, repeated(ground.bracket_at(place), n))
    return word


def walked_sums(ground, row):
    """The sums of the row's word, by those of its powers."""
    told = empty_sums(ground)
    for place, n in enumerate(row):
        bracket = scattered(ground, ground.bracket_at(place))
        told = sums_joined(ground, told, sums_repeated(ground, bracket, n))
    return told


def great_rows(ground):
    """Rows of great numbers, of either sign, and of such in one place alone."""
    rows = [deep_row(ground, GREAT, least, least) for least in range(1, ground.depth() + 1)]
    rows.append((GREAT,) * ground.places())
    rows.append((-GREAT,) * ground.places())
    return rows + made_rows(ground, GREAT, 4, "great")


def every_relation(ground):
    """What [9] asks of the sums of any word: triples of two words and the pairs that are told of them."""
    words = [word for word in ground.words() if word]
    return [
        (one, other, laid_together(one, other))
        for one, other in itertools.product(words, words) if len(one) + len(other) <= ground.depth()
    ]


def are_sums(ground, sums, relations):
    """Whether some word has these sums: the first is 1, and all that [9] asks holds."""
    known = dict(zip(ground.words(), sums))
    return known[()] == 1 and all(
        known[one] * known[other] == sum(times * known[word] for word, times in told)
        for one, other, told in relations
    )


class RowOf(unittest.TestCase):
    def test_ordinary(self):
        ground = Ground(2, 3)
        self.assertEqual(row_of(ground, ()), (0, 0, 0, 0, 0))
        self.assertEqual(row_of(ground, (1, 2)), (1, 1, 0, 0, 0))
        self.assertEqual(row_of(ground, (2, 1)), (1, 1, -1, 0, 0))
        self.assertEqual(row_of(ground, (-1, -2, 1, 2)), (0, 0, 1, 0, 0))
        self.assertEqual(row_of(ground, (2, -2, -1)), (-1, 0, 0, 0, 0))

    def test_one_letter(self):
        for depth in range(1, 6):
            for n in (-60, -3, 0, 1, 60):
                self.assertEqual(row_of(Ground(1, depth), repeated((1,), n)), (n,))

    def test_brackets_of_the_places(self):
        for ground in each_ground():
            for place in range(ground.places()):
                expected = tuple(1 if at == place else 0 for at in range(ground.places()))
                self.assertEqual(row_of(ground, ground.bracket_at(place)), expected)
                self.assertEqual(row_of(ground, backed(ground.bracket_at(place))), tuple(-n for n in expected))

    def test_the_row_has_the_words_sums(self):
        for ground in each_ground():
            for word in some_words(ground):
                row = row_of(ground, word)
                self.assertTrue(is_row(ground, row))
                sums = scattered(ground, word)
                self.assertEqual(sums_of(ground, row), sums)
                self.assertEqual(walked_sums(ground, row), sums)
                if steps_of(ground, row) <= 600:
                    self.assertEqual(scattered(ground, spelled(ground, row)), sums)

    def test_words_of_rows(self):
        for ground in each_ground():
            for row in made_rows(ground, 3, 8, "words of rows"):
                self.assertEqual(row_of(ground, word_of(ground, row)), row)

    def test_first_numbers(self):
        for ground in each_ground():
            for word in some_words(ground):
                row = row_of(ground, word)
                for letter in range(1, ground.letters() + 1):
                    self.assertEqual(row[letter - 1], word.count(letter) - word.count(-letter))

    def test_tuples_and_lists(self):
        for ground in each_ground():
            for word in some_words(ground)[5:14]:
                row = check_handing(self, row_of, ground, word)
                self.assertEqual(row_of(ground, word), row)

    def test_the_very_list_changed(self):
        for ground in each_ground():
            word = [1, 1]
            self.assertEqual(row_of(ground, word)[0], 2)
            word[1] = -1
            self.assertEqual(row_of(ground, word), (0,) * ground.places())


class SumsOf(unittest.TestCase):
    def test_ordinary(self):
        ground = Ground(2, 2)
        self.assertEqual(sums_of(ground, (0, 0, 0)), [1, 0, 0, 0, 0, 0, 0])
        self.assertEqual(sums_of(ground, (1, 1, -1)), scattered(ground, (2, 1)))
        self.assertEqual(sums_of(ground, (3, -1, 2)), [1, 3, -1, 3, -1, -2, 1])

    def test_small_rows(self):
        for ground in each_ground():
            for row in made_rows(ground, 3, 8, "small"):
                self.assertEqual(sums_of(ground, row), scattered(ground, word_of(ground, row)))

    def test_great_rows(self):
        for ground in each_ground():
            for row in great_rows(ground):
                self.assertEqual(sums_of(ground, row), walked_sums(ground, row))

    def test_handing(self):
        for ground in each_ground():
            for row in great_rows(ground)[-2:] + [(0,) * ground.places()]:
                told = check_handing(self, sums_of, ground, row)
                self.assertEqual(len(told), len(ground.words()))
                self.assertTrue(all(is_number(number) for number in told))
                check_own_list(self, sums_of, ground, row)


class RowBy(unittest.TestCase):
    def test_ordinary(self):
        ground = Ground(2, 2)
        self.assertEqual(row_by(ground, [1, 3, -1, 3, -1, -2, 1]), (3, -1, 2))
        self.assertIsNone(row_by(ground, [1, 3, -1, 3, -1, -1, 1]))
        self.assertIsNone(row_by(ground, [1, 3, -1, 3, 0, -2, 1]))
        self.assertIsNone(row_by(ground, [1, 3, -1, 3, -1, -2, 0]))

    def test_the_sums_of_rows(self):
        for ground in each_ground():
            for row in great_rows(ground) + made_rows(ground, 5, 4, "row by"):
                sums = tuple(walked_sums(ground, row))
                told = check_handing(self, row_by, ground, sums)
                self.assertEqual(told, row)
                self.assertTrue(is_row(ground, told))

    def test_another_first_number(self):
        for ground in each_ground():
            for row in made_rows(ground, 4, 2, "first") + [(0,) * ground.places()]:
                sums = walked_sums(ground, row)
                for first in (0, -1, 2, 10 ** 60, -10 ** 60):
                    self.assertIsNone(check_handing(self, row_by, ground, (first,) + tuple(sums[1:])))

    def test_all_noughts(self):
        for ground in each_ground():
            self.assertIsNone(row_by(ground, [0] * len(ground.words())))
            self.assertEqual(row_by(ground, empty_sums(ground)), (0,) * ground.places())

    def check_sums(self, ground, sums, relations):
        told = row_by(ground, sums)
        if are_sums(ground, sums, relations):
            self.assertTrue(is_row(ground, told))
            self.assertEqual(walked_sums(ground, told), sums)
        else:
            self.assertIsNone(told)
        return told

    def test_one_number_changed(self):
        for ground in each_ground():
            relations = every_relation(ground)
            rows = [(0,) * ground.places()] + made_rows(ground, 3, 1, "changed")
            for row in rows + made_rows(ground, GREAT, 1, "changed"):
                sums = walked_sums(ground, row)
                self.assertEqual(self.check_sums(ground, sums, relations), row)
                step = max(1, len(sums) // 30)
                for at in range(0, len(sums), step):
                    for more in (1, -1):
                        changed = list(sums)
                        changed[at] += more
                        self.check_sums(ground, changed, relations)

    def test_the_greatest_words_number_changed(self):
        # The last sums are settled by the ones ahead, so that a change of them leaves no row.
        for ground in each_ground():
            if ground.depth() > 1:
                for row in made_rows(ground, GREAT, 2, "last"):
                    sums = walked_sums(ground, row)
                    for more in (1, -1, 10 ** 60, -10 ** 70):
                        self.assertIsNone(row_by(ground, sums[:-1] + [sums[-1] + more]))

    def test_any_numbers(self):
        source = random.Random("any numbers")
        for ground in each_ground():
            relations = every_relation(ground)
            for size in (1, 2, 10 ** 6, 10 ** 60, 10 ** 300):
                sums = [1] + [source.randint(-size, size) for word in ground.words()[1:]]
                self.check_sums(ground, sums, relations)

    def test_depth_1(self):
        for letters in range(1, 5):
            row = tuple((-1) ** at * (10 ** 60 - at) for at in range(letters))
            self.assertEqual(row_by(Ground(letters, 1), [1] + list(row)), row)

    def test_told_rows_handed_in_again(self):
        for ground in each_ground():
            row = great_rows(ground)[0]
            sums = sums_joined(ground, sums_of(ground, row), sums_of(ground, row))
            greater = row_by(ground, sums)
            self.assertEqual(row_by(ground, sums_of(ground, greater)), greater)
            self.assertEqual(sums_of(ground, greater), sums)


class Spelled(unittest.TestCase):
    def test_ordinary(self):
        ground = Ground(2, 3)
        self.assertEqual(spelled(ground, (2, -1, 1, 0, 0)), (1, 1, -2, -1, -2, 1, 2))
        self.assertEqual(spelled(ground, (0, 0, -1, 0, 0)), (-2, -1, 2, 1))
        self.assertEqual(spelled(ground, (0, 0, 0, 0, 0)), ())
        self.assertEqual(spelled(ground, (1, 0, 1, 0, 0)), (1, -1, -2, 1, 2))

    def test_the_row_of_it(self):
        for ground in each_ground():
            for row in made_rows(ground, 4, 10, "spelled"):
                if steps_of(ground, row) <= 600:
                    told = check_handing(self, spelled, ground, row)
                    self.assertTrue(is_word(told))
                    self.assertEqual(told, word_of(ground, row))
                    self.assertEqual(row_of(ground, told), row)

    def test_up_to_600_steps(self):
        for ground in each_ground():
            for place in range(ground.places()):
                most = 600 // len(ground.bracket_at(place))
                for sign in (1, -1):
                    row = [0] * ground.places()
                    row[place] = sign * most
                    self.assertEqual(spelled(ground, row), word_of(ground, row))
                    row[place] = sign * (most + 1)
                    self.assertEqual(steps_of(ground, row) > 600, True)
                    check_refused(self, TooLong, spelled, ground, row)

    def test_just_600_steps_and_one_more(self):
        for ground in each_ground():
            for row in made_rows(ground, 2, 6, "just"):
                for sign in (1, -1):
                    rest = 600 - steps_of(ground, (0,) + row[1:])
                    if rest >= 0:
                        fits = (sign * rest,) + row[1:]
                        self.assertEqual(len(spelled(ground, fits)), 600)
                        self.assertEqual(spelled(ground, fits), word_of(ground, fits))
                        check_refused(self, TooLong, spelled, ground, (sign * (rest + 1),) + row[1:])

    def test_great_numbers(self):
        for ground in each_ground():
            for row in great_rows(ground):
                if any(row):
                    check_refused(self, TooLong, spelled, ground, row)
                    check_refused(self, TooLong, spelled, ground, list(row))
            for place in range(ground.places()):
                for number in (601, 10 ** 60, -10 ** 60, GREAT, -GREAT):
                    row = tuple(number if at == place else 0 for at in range(ground.places()))
                    check_refused(self, TooLong, spelled, ground, row)

    def test_both_signs_do_not_cancel(self):
        ground = Ground(2, 2)
        check_refused(self, TooLong, spelled, ground, (GREAT, -GREAT, 0))
        check_refused(self, TooLong, spelled, ground, (4, 0, -150))
        self.assertEqual(spelled(ground, (300, -300, 0)), (1,) * 300 + (-2,) * 300)

    def test_behind_a_refusal(self):
        ground = Ground(2, 3)
        check_refused(self, TooLong, spelled, ground, (GREAT, 0, 0, 0, 0))
        self.assertEqual(spelled(ground, (1, 0, 0, 0, 0)), (1,))


class UnlikeAt(unittest.TestCase):
    def check_unlike(self, ground, one, other):
        """Point [11], place by place and sum by sum."""
        told = check_handing(self, unlike_at, ground, one, other)
        rows = list(zip(row_of(ground, one), row_of(ground, other)))
        places = [place for place, (first, second) in enumerate(rows) if first != second]
        sums = zip(ground.words(), scattered(ground, one), scattered(ground, other))
        words = [word for word, first, second in sums if first != second]
        self.assertEqual(places == [], words == [])
        if places:
            self.assertEqual(told, (places[0], words[0]))
            self.assertIs(type(told), tuple)
            self.assertTrue(is_number(told[0]) and is_word(told[1]))
            self.assertEqual(ground.word_at(told[0]), told[1])
        else:
            self.assertIsNone(told)
        self.assertEqual(unlike_at(ground, other, one), told)

    def test_ordinary(self):
        ground = Ground(2, 3)
        self.assertIsNone(unlike_at(ground, (), ()))
        self.assertIsNone(unlike_at(ground, (1, -1), ()))
        self.assertEqual(unlike_at(ground, (1,), ()), (0, (1,)))
        self.assertEqual(unlike_at(ground, (1, 2), (2, 1)), (2, (1, 2)))
        self.assertEqual(unlike_at(ground, (2,), (1,)), (0, (1,)))
        self.assertEqual(unlike_at(ground, ground.bracket_at(4), ()), (4, (1, 2, 2)))

    def test_pairs_of_words(self):
        for ground in each_ground():
            words = some_words(ground)
            for at, one in enumerate(words):
                self.check_unlike(ground, one, words[at - 1])
                self.check_unlike(ground, one, ())
                self.check_unlike(ground, one, tuple(reversed(one)))

    def test_a_pair_put_in(self):
        for ground in each_ground():
            for word in some_words(ground):
                for step in (1, -1, ground.letters(), -ground.letters()):
                    for at in (0, len(word) // 2, len(word)):
                        put = word[:at] + (step, -step) + word[at:]
                        self.assertIsNone(unlike_at(ground, put, word))
                self.assertIsNone(unlike_at(ground, word, shortened(word)))

    def test_a_deep_bracket_put_in(self):
        source = random.Random("deep brackets")
        for ground in each_ground():
            for word in made_words(ground.letters(), [0, 1, 5, 20], "put in"):
                leaves = made_words(ground.letters(), [1] * (ground.depth() + 1), source.random())
                bracket = source.choice(all_shapes(leaves))
                at = source.randint(0, len(word))
                put = word[:at] + bracket + word[at:]
                self.assertIsNone(unlike_at(ground, put, word))
                self.assertEqual(row_of(ground, put), row_of(ground, word))

    def test_a_bracket_that_is_not_too_deep(self):
        for ground in each_ground():
            for place in range(ground.places()):
                bracket = ground.bracket_at(place)
                for word in made_words(ground.letters(), [0, 3, 12], "not too deep"):
                    told = unlike_at(ground, joined(word, bracket), word)
                    self.assertEqual(told, (place, ground.word_at(place)))

    def test_rows_that_are_unlike_at_each_place(self):
        for ground in each_ground():
            row = made_rows(ground, 1, 1, "each place")[0]
            for place in range(ground.places()):
                other = row[:place] + (row[place] + 1,) + tuple(-n for n in row[place + 1:])
                one = word_of(ground, row)
                self.assertEqual(
                    unlike_at(ground, one, word_of(ground, other)), (place, ground.word_at(place))
                )

    def test_exchanged_words(self):
        ground = Ground(3, 4)
        for one, other in itertools.product(made_words(3, [1, 2, 3], "one"), made_words(3, [1, 2, 4], "other")):
            self.check_unlike(ground, joined(one, other), joined(other, one))
            exchanged = joined(joined(other, one), bracketed(one, other))
            self.assertIsNone(unlike_at(ground, joined(one, other), exchanged))


class Alike(unittest.TestCase):
    def test_just_where_their_rows_are(self):
        for ground in each_ground():
            words = few_words(ground)
            for one, other in itertools.combinations(words, 2):
                same = scattered(ground, one) == scattered(ground, other)
                self.assertEqual(row_of(ground, one) == row_of(ground, other), same)

    def test_two_grounds_by_turns(self):
        small, large = Ground(2, 2), Ground(2, 5)
        word = made_words(2, [20], "by turns")[0]
        rows = (row_of(Ground(2, 2), word), row_of(Ground(2, 5), word))
        for time in (1, 2):
            self.assertEqual((row_of(small, word), row_of(large, word)), rows)
            self.assertEqual(sums_of(large, rows[1]), scattered(Ground(2, 5), word))
            self.assertEqual(sums_of(small, rows[0]), scattered(Ground(2, 2), word))


if __name__ == "__main__":
    unittest.main()

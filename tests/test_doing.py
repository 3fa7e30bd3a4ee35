"""doing.py: points [2] and [12]."""

import itertools
import unittest

from bracketwords.doing import (
    deepness, nothing, row_backed, row_raised, row_turned, rows_bracketed, rows_joined, shallower
)
from bracketwords.grounds import Ground
from bracketwords.rows import row_of, sums_of
from bracketwords.sums import sums_backed, sums_joined, sums_repeated
from bracketwords.words import backed, bracketed, joined, repeated
from tests.making import check_handing, deep_row, each_ground, few_words, is_number, is_row, made_rows, made_words

GREAT = 10 ** 60 - 1
POWERS = (-10 ** 60, -GREAT, -10 ** 9, -7, -2, -1, 0, 1, 2, 3, 10 ** 9, GREAT, 10 ** 60)


def some_words(ground):
    return few_words(ground)[::3] + made_words(ground.letters(), [14, 60], "doing")


def pairs_of_words(ground):
    words = some_words(ground)
    return list(zip(words, words[1:] + words[:1])) + [(words[-1], words[-1])]


def great_rows(ground):
    rows = [deep_row(ground, GREAT, least, least) for least in range(1, ground.depth() + 1)]
    return rows + made_rows(ground, GREAT, 2, "great doing")


def pairs_of_rows(ground):
    rows = great_rows(ground) + made_rows(ground, 9, 2, "small doing")
    return list(zip(rows, rows[1:] + rows[:1])) + [(rows[0], rows[0])]


class Nothing(unittest.TestCase):
    def test_each_ground(self):
        for ground in each_ground():
            self.assertEqual(nothing(ground), (0,) * ground.places())
            self.assertTrue(is_row(ground, nothing(ground)))
            self.assertEqual(nothing(ground), row_of(ground, ()))


class RowsJoined(unittest.TestCase):
    def test_ordinary(self):
        ground = Ground(2, 3)
        self.assertEqual(rows_joined(ground, (1, 0, 0, 0, 0), (0, 1, 0, 0, 0)), (1, 1, 0, 0, 0))
        self.assertEqual(rows_joined(ground, (0, 1, 0, 0, 0), (1, 0, 0, 0, 0)), (1, 1, -1, 0, 0))

    def test_beside_words(self):
        for ground in each_ground():
            for one, other in pairs_of_words(ground):
                told = check_handing(self, rows_joined, ground, row_of(ground, one), row_of(ground, other))
                self.assertEqual(told, row_of(ground, joined(one, other)))
                self.assertTrue(is_row(ground, told))

    def test_great_numbers(self):
        for ground in each_ground():
            for one, other in pairs_of_rows(ground):
                told = rows_joined(ground, one, other)
                self.assertTrue(is_row(ground, told))
                expected = sums_joined(ground, sums_of(ground, one), sums_of(ground, other))
                self.assertEqual(sums_of(ground, told), expected)

    def test_with_nothing(self):
        for ground in each_ground():
            for row in great_rows(ground):
                self.assertEqual(rows_joined(ground, row, nothing(ground)), row)
                self.assertEqual(rows_joined(ground, nothing(ground), row), row)

    def test_in_whatever_brackets(self):
        for ground in each_ground():
            one, other, third = made_rows(ground, GREAT, 3, "three")
            self.assertEqual(
                rows_joined(ground, rows_joined(ground, one, other), third),
                rows_joined(ground, one, rows_joined(ground, other, third)),
            )


class RowBacked(unittest.TestCase):
    def test_ordinary(self):
        ground = Ground(2, 2)
        self.assertEqual(row_backed(ground, (1, 1, 0)), (-1, -1, -1))
        self.assertEqual(row_backed(ground, (0, 0, 5)), (0, 0, -5))

    def test_beside_words(self):
        for ground in each_ground():
            for word in some_words(ground):
                told = check_handing(self, row_backed, ground, row_of(ground, word))
                self.assertEqual(told, row_of(ground, backed(word)))
                self.assertTrue(is_row(ground, told))

    def test_great_numbers(self):
        for ground in each_ground():
            for row in great_rows(ground):
                told = row_backed(ground, row)
                self.assertEqual(sums_of(ground, told), sums_backed(ground, sums_of(ground, row)))
                self.assertEqual(rows_joined(ground, row, told), nothing(ground))
                self.assertEqual(rows_joined(ground, told, row), nothing(ground))
                self.assertEqual(row_backed(ground, told), row)


class RowRaised(unittest.TestCase):
    def test_ordinary(self):
        ground = Ground(2, 2)
        self.assertEqual(row_raised(ground, (1, 1, 0), 2), (2, 2, -1))
        self.assertEqual(row_raised(ground, (1, 1, 0), 10 ** 60)[2], -10 ** 60 * (10 ** 60 - 1) // 2)

    def test_beside_words(self):
        for ground in each_ground():
            for word in some_words(ground):
                row = row_of(ground, word)
                for n in (-5, -2, -1, 0, 1, 2, 3, 8):
                    told = check_handing(self, row_raised, ground, row, n)
                    self.assertEqual(told, row_of(ground, repeated(word, n)))
                    self.assertTrue(is_row(ground, told))

    def test_great_numbers(self):
        for ground in each_ground():
            for row in great_rows(ground)[-3:] + made_rows(ground, 3, 1, "raised"):
                for n in POWERS:
                    told = row_raised(ground, row, n)
                    self.assertTrue(is_row(ground, told))
                    self.assertEqual(sums_of(ground, told), sums_repeated(ground, sums_of(ground, row), n))

    def test_by_0_1_and_back(self):
        for ground in each_ground():
            for row in great_rows(ground):
                self.assertEqual(row_raised(ground, row, 0), nothing(ground))
                self.assertEqual(row_raised(ground, row, 1), row)
                self.assertEqual(row_raised(ground, row, -1), row_backed(ground, row))

    def test_nothing(self):
        for ground in each_ground():
            for n in POWERS:
                self.assertEqual(row_raised(ground, nothing(ground), n), nothing(ground))

    def test_so_often_and_so_often_more(self):
        for ground in each_ground():
            row = made_rows(ground, 10 ** 9, 1, "more")[0]
            for n, more in itertools.product((-GREAT, -2, 1, 10 ** 60), (-3, GREAT)):
                both = rows_joined(ground, row_raised(ground, row, n), row_raised(ground, row, more))
                self.assertEqual(both, row_raised(ground, row, n + more))
                again = row_raised(ground, row_raised(ground, row, n), more)
                self.assertEqual(again, row_raised(ground, row, n * more))


class RowsBracketed(unittest.TestCase):
    def test_ordinary(self):
        ground = Ground(2, 2)
        self.assertEqual(rows_bracketed(ground, (1, 0, 0), (0, 1, 0)), (0, 0, 1))
        self.assertEqual(rows_bracketed(ground, (0, 1, 0), (1, 0, 0)), (0, 0, -1))
        self.assertEqual(rows_bracketed(ground, (3, 5, 9), (7, 11, -4)), (0, 0, 3 * 11 - 5 * 7))

    def test_beside_words(self):
        for ground in each_ground():
            for one, other in pairs_of_words(ground):
                told = check_handing(self, rows_bracketed, ground, row_of(ground, one), row_of(ground, other))
                self.assertEqual(told, row_of(ground, bracketed(one, other)))
                self.assertTrue(is_row(ground, told))

    def test_great_numbers(self):
        for ground in each_ground():
            for one, other in pairs_of_rows(ground):
                told = rows_bracketed(ground, one, other)
                first, second = sums_of(ground, one), sums_of(ground, other)
                backs = sums_joined(ground, sums_backed(ground, first), sums_backed(ground, second))
                expected = sums_joined(ground, backs, sums_joined(ground, first, second))
                self.assertEqual(sums_of(ground, told), expected)

    def test_places(self):
        for ground in each_ground():
            for place in range(ground.letters(), ground.places()):
                rows = [
                    tuple(1 if at == part else 0 for at in range(ground.places()))
                    for part in ground.parts_at(place) + (place,)
                ]
                self.assertEqual(rows_bracketed(ground, rows[0], rows[1]), rows[2])

    def test_deeper_than_both(self):
        for ground in each_ground():
            for one, other in pairs_of_rows(ground):
                together = deepness(ground, one) + deepness(ground, other)
                least = deepness(ground, rows_bracketed(ground, one, other))
                self.assertGreaterEqual(least, min(together, ground.depth() + 1))


class RowTurned(unittest.TestCase):
    def test_ordinary(self):
        ground = Ground(2, 2)
        self.assertEqual(row_turned(ground, (1, 0, 0), (0, 1, 0)), (1, 0, 1))
        self.assertEqual(row_turned(ground, (0, 1, 0), (1, 0, 0)), (0, 1, -1))

    def test_beside_words(self):
        for ground in each_ground():
            for word, other in pairs_of_words(ground):
                told = check_handing(self, row_turned, ground, row_of(ground, word), row_of(ground, other))
                self.assertEqual(told, row_of(ground, joined(joined(backed(other), word), other)))
                self.assertTrue(is_row(ground, told))

    def test_great_numbers(self):
        for ground in each_ground():
            for row, other in pairs_of_rows(ground):
                told = row_turned(ground, row, other)
                turner = sums_of(ground, other)
                expected = sums_joined(ground, sums_backed(ground, turner), sums_of(ground, row))
                self.assertEqual(sums_of(ground, told), sums_joined(ground, expected, turner))
                # Joined with its bracket with other, the row is the turned one.
                bracket = rows_bracketed(ground, row, other)
                self.assertEqual(rows_joined(ground, row, bracket), told)


class Deepness(unittest.TestCase):
    def test_ordinary(self):
        ground = Ground(2, 3)
        self.assertEqual(deepness(ground, (0, -1, 5, 0, 0)), 1)
        self.assertEqual(deepness(ground, (0, 0, -5, 1, 0)), 2)
        self.assertEqual(deepness(ground, (0, 0, 0, 0, 1)), 3)
        self.assertEqual(deepness(ground, (0, 0, 0, 0, 0)), 4)

    def test_nothing(self):
        for ground in each_ground():
            told = check_handing(self, deepness, ground, nothing(ground))
            self.assertEqual(told, ground.depth() + 1)
            self.assertTrue(is_number(told))

    def test_each_place_alone_and_with_deeper_ones(self):
        for ground in each_ground():
            for place in range(ground.places()):
                for number in (1, -1, GREAT, -GREAT):
                    for behind in (0, 3):
                        row = (0,) * place + (number,) + (behind,) * (ground.places() - place - 1)
                        told = check_handing(self, deepness, ground, row)
                        self.assertEqual(told, ground.size_at(place))
                        self.assertTrue(is_number(told))


class Shallower(unittest.TestCase):
    def test_ordinary(self):
        ground = Ground(2, 3)
        self.assertEqual(shallower(ground, (1, 2, 3, 4, 5), 1), (1, 2))
        self.assertEqual(shallower(ground, (1, 2, 3, 4, 5), 2), (1, 2, 3))
        self.assertEqual(shallower(ground, (1, 2, 3, 4, 5), 3), (1, 2, 3, 4, 5))

    def test_beside_words(self):
        for ground in each_ground():
            for word in some_words(ground):
                row = row_of(ground, word)
                for depth in range(1, ground.depth() + 1):
                    lesser = Ground(ground.letters(), depth)
                    told = check_handing(self, shallower, ground, row, depth)
                    self.assertTrue(is_row(lesser, told))
                    self.assertEqual(told, row_of(lesser, word))

    def test_first_numbers(self):
        for ground in each_ground():
            for row in great_rows(ground):
                for depth in range(1, ground.depth() + 1):
                    lesser = Ground(ground.letters(), depth)
                    self.assertEqual(shallower(ground, row, depth), row[:lesser.places()])
                    joined_rows = rows_joined(ground, row, row[::-1])
                    self.assertEqual(
                        shallower(ground, joined_rows, depth),
                        rows_joined(lesser, shallower(ground, row, depth), shallower(ground, row[::-1], depth)),
                    )


class Handing(unittest.TestCase):
    def test_a_tuple_with_a_list(self):
        for ground in each_ground():
            one, other = made_rows(ground, 50, 2, "mixed")
            for asked in (rows_joined, rows_bracketed, row_turned):
                told = asked(ground, one, other)
                self.assertEqual(asked(ground, list(one), other), told)
                self.assertEqual(asked(ground, one, list(other)), told)

    def test_the_very_list_twice_and_changed(self):
        ground = Ground(2, 2)
        row = [1, 1, 0]
        self.assertEqual(rows_joined(ground, row, row), (2, 2, -1))
        self.assertEqual(rows_bracketed(ground, row, row), (0, 0, 0))
        self.assertEqual(row_turned(ground, row, row), (1, 1, 0))
        self.assertEqual(row, [1, 1, 0])
        row[1] = 0
        self.assertEqual(rows_joined(ground, row, row), (2, 0, 0))
        self.assertEqual(row_backed(ground, row), (-1, 0, 0))

    def test_told_rows_handed_in_again(self):
        for ground in each_ground():
            row = great_rows(ground)[0]
            for time in range(3):
                row = rows_joined(ground, row, row)
            self.assertEqual(row, row_raised(ground, great_rows(ground)[0], 8))
            self.assertEqual(rows_joined(ground, row_backed(ground, row), row), nothing(ground))

    def test_asked_by_turns(self):
        grounds = each_ground()
        first = [[row_raised(ground, row, 5) for row in made_rows(ground, 9, 2, "turns")] for ground in grounds]
        again = [[row_raised(ground, row, 5) for row in made_rows(ground, 9, 2, "turns")] for ground in grounds]
        self.assertEqual(first, again)


if __name__ == "__main__":
    unittest.main()

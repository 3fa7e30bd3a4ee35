"""going.py: points [2] and [16]."""

import itertools
import unittest

from bracketwords.doing import deepness, nothing, row_raised, rows_joined, shallower
from bracketwords.going import companion_parts, companions, go_together
from bracketwords.grounds import Ground
from bracketwords.roots import most_root
from tests.making import check_handing, deep_row, each_ground, is_number, is_row, made_rows

GREAT = 10 ** 60 - 1
MILLION = 10 ** 6 - 1


def some_rows(ground, size):
    """Nothing, rows of each deepness, and powers of small rows."""
    rows = [nothing(ground)] + made_rows(ground, size, 2, "going")
    for least in range(1, ground.depth() + 1):
        rows.append(deep_row(ground, size, least, least))
        rows.append(tuple(6 * number for number in deep_row(ground, size // 6, least, -least)))
    powers = [row_raised(ground, row, n) for row in made_rows(ground, 2, 2, "power") for n in (-6, 4)]
    return rows + [row for row in powers if max(abs(number) for number in row) <= MILLION]


def walked_companions(ground, row):
    """Point [16], as it is written."""
    d, c = deepness(ground, row), ground.depth()
    if not any(row):
        return (nothing(ground), 1)
    size = c + 1 - d
    if size <= d:
        return (nothing(ground), size)
    lesser = Ground(ground.letters(), c - d)
    y, n = most_root(lesser, shallower(ground, row, c - d))
    return (y + (0,) * (ground.places() - lesser.places()), size)


def goes_either_way(ground, one, other):
    return rows_joined(ground, one, other) == rows_joined(ground, other, one)


class GoTogether(unittest.TestCase):
    def test_ordinary(self):
        ground = Ground(2, 2)
        self.assertIs(go_together(ground, (1, 0, 0), (0, 1, 0)), False)
        self.assertIs(go_together(ground, (1, 0, 0), (5, 0, 7)), True)
        self.assertIs(go_together(ground, (1, 2, 0), (2, 4, 0)), True)
        self.assertIs(go_together(ground, (1, 2, 0), (2, 5, 0)), False)

    def check_either_way(self, ground, one, other):
        told = check_handing(self, go_together, ground, one, other)
        self.assertIs(told, goes_either_way(ground, one, other))
        self.assertIs(go_together(ground, other, one), told)
        self.assertIs(go_together(ground, one, list(other)), told)
        return told

    def test_beside_rows_joined(self):
        for ground in each_ground():
            rows = some_rows(ground, 40)
            for at, one in enumerate(rows):
                for other in (rows[at - 1], rows[at - 3], one, row_raised(ground, one, -7)):
                    self.check_either_way(ground, one, other)

    def test_great_numbers(self):
        for ground in each_ground():
            rows = [deep_row(ground, GREAT, least, least) for least in range(1, ground.depth() + 1)]
            for one, other in itertools.combinations_with_replacement(rows, 2):
                told = self.check_either_way(ground, one, other)
                deep = deepness(ground, one) + deepness(ground, other) > ground.depth()
                if deep or one == other:
                    self.assertIs(told, True)
            for n in (-GREAT, 3, 10 ** 60):
                self.assertIs(go_together(ground, rows[0], row_raised(ground, rows[0], n)), True)

    def test_with_nothing(self):
        for ground in each_ground():
            for row in some_rows(ground, GREAT):
                self.assertIs(go_together(ground, row, nothing(ground)), True)
                self.assertIs(go_together(ground, nothing(ground), row), True)

    def test_letters(self):
        for ground in each_ground():
            letters = [
                tuple(1 if at == place else 0 for at in range(ground.places())) for place in range(ground.letters())
            ]
            for one, other in itertools.product(letters, letters):
                self.assertIs(go_together(ground, one, other), one == other or ground.depth() == 1)


class Companions(unittest.TestCase):
    def check_companions(self, ground, row):
        told = check_handing(self, companions, ground, row)
        self.assertIs(type(told), tuple)
        self.assertEqual(len(told), 2)
        self.assertTrue(is_row(ground, told[0]) and is_number(told[1]))
        self.assertEqual(told, walked_companions(ground, row))
        self.assertEqual(companions(ground, row), told)
        return told

    def test_ordinary(self):
        ground = Ground(2, 3)
        self.assertEqual(companions(ground, (0, 0, 0, 0, 0)), ((0, 0, 0, 0, 0), 1))
        self.assertEqual(companions(ground, (4, 0, 2, 5, 5)), ((2, 0, 1, 0, 0), 3))
        self.assertEqual(companions(ground, (0, 0, 6, 1, 1)), ((0, 0, 0, 0, 0), 2))
        self.assertEqual(companions(ground, (0, 0, 0, 1, 1)), ((0, 0, 0, 0, 0), 1))
        self.assertEqual(companions(Ground(2, 4), (0, 0, 6, 4, 1, 0, 0, 0)), ((0, 0, 1, 0, 0, 0, 0, 0), 3))
        self.assertEqual(companions(Ground(2, 1), (6, 4)), ((0, 0), 1))

    def test_as_it_is_written(self):
        for ground in each_ground():
            for row in some_rows(ground, 30) + some_rows(ground, MILLION):
                self.check_companions(ground, row)

    def test_each_deepness(self):
        for ground in each_ground():
            sizes = sorted(set(ground.size_at(place) for place in range(ground.places())))
            for least in sizes:
                y, size = self.check_companions(ground, deep_row(ground, MILLION, least, "each"))
                self.assertEqual(size, ground.depth() + 1 - least)
                self.assertIs(any(y), size > least)

    def test_what_is_told_goes_with_the_row(self):
        for ground in each_ground():
            for row in some_rows(ground, MILLION):
                y, size = companions(ground, row)
                deep = deep_row(ground, 9, size, "with the row")
                for n in (-3, 0, 1, 10 ** 9):
                    other = rows_joined(ground, row_raised(ground, y, n), deep)
                    self.assertIs(goes_either_way(ground, row, other), True)

    def test_nothing_else_does(self):
        for letters, depth in ((1, 3), (2, 2), (2, 3), (3, 2)):
            ground = Ground(letters, depth)
            drawn = list(itertools.product((-2, -1, 0, 1, 2), repeat=min(3, ground.places())))
            drawn = [row + (1,) * (ground.places() - len(row)) for row in drawn]
            for row in made_rows(ground, 2, 6, "nothing else") + some_rows(ground, 8):
                y, size = companions(ground, row)
                for other in drawn:
                    rests = [rows_joined(ground, row_raised(ground, y, n), other) for n in range(-2, 3)]
                    fits = any(deepness(ground, rest) >= size for rest in rests)
                    self.assertIs(goes_either_way(ground, row, other), fits, (row, other))

    def test_drawn_beside_it(self):
        for ground in each_ground():
            for row in some_rows(ground, 12):
                y, size = companions(ground, row)
                for place in range(0, ground.places(), max(1, ground.places() // 5)):
                    one = tuple(1 if at == place else 0 for at in range(ground.places()))
                    # Joined with what goes with the row, a row goes with it just where it did alone.
                    beside = rows_joined(ground, row_raised(ground, y, 2), one)
                    rests = [rows_joined(ground, row_raised(ground, y, n), one) for n in (-1, 0, 1)]
                    fits = any(deepness(ground, rest) >= size for rest in rests)
                    self.assertIs(goes_either_way(ground, row, one), fits)
                    self.assertIs(goes_either_way(ground, row, beside), fits)


class CompanionParts(unittest.TestCase):
    def check_parts(self, ground, row, other):
        told = check_handing(self, companion_parts, ground, row, other)
        self.assertEqual(companion_parts(ground, list(row), other), told)
        if not goes_either_way(ground, row, other):
            self.assertIsNone(told)
            return None
        self.assertIs(type(told), tuple)
        n, rest = told
        self.assertTrue(is_number(n) and is_row(ground, rest))
        y, size = companions(ground, row)
        self.assertEqual(rows_joined(ground, row_raised(ground, y, n), rest), tuple(other))
        self.assertGreaterEqual(deepness(ground, rest), size)
        if not any(y):
            self.assertEqual(told, (0, tuple(other)))
        return told

    def test_ordinary(self):
        ground = Ground(2, 2)
        self.assertEqual(companion_parts(ground, (4, 2, 9), (6, 3, 0)), (3, (0, 0, 6)))
        self.assertEqual(companion_parts(ground, (4, 2, 9), (-2, -1, 0)), (-1, (0, 0, 2)))
        self.assertEqual(companion_parts(ground, (0, 0, 9), (6, 3, 0)), (0, (6, 3, 0)))
        self.assertEqual(companion_parts(ground, (0, 0, 0), (6, 3, 0)), (0, (6, 3, 0)))
        self.assertEqual(companion_parts(ground, (4, 2, 9), (0, 0, 0)), (0, (0, 0, 0)))
        self.assertIsNone(companion_parts(ground, (4, 2, 9), (3, 6, 0)))

    def test_parts_found_again(self):
        for ground in each_ground():
            for row in some_rows(ground, MILLION):
                y, size = companions(ground, row)
                deep = deep_row(ground, GREAT, size, "deep")
                for n, rest in ((0, deep), (1, nothing(ground)), (-7, deep), (-GREAT, deep)):
                    other = rows_joined(ground, row_raised(ground, y, n), rest)
                    told = self.check_parts(ground, row, other)
                    self.assertEqual(told, (n, rest) if any(y) else (0, other))

    def test_powers_of_the_row(self):
        for ground in each_ground():
            for row in some_rows(ground, 20):
                for n in (-2, 10 ** 40):
                    self.assertIsNotNone(self.check_parts(ground, row, row_raised(ground, row, n)))

    def test_any_rows(self):
        kinds = set()
        for ground in each_ground():
            rows = some_rows(ground, 12)
            for at, row in enumerate(rows):
                for other in (rows[at - 1], rows[at - 2], deep_row(ground, GREAT, 1, at)):
                    kinds.add(self.check_parts(ground, row, other) is None)
        self.assertEqual(kinds, {True, False})

    def test_every_small_row(self):
        ground = Ground(2, 3)
        for row in ((2, 0, 0, 1, 0), (2, -4, 1, 0, 0), (0, 0, 2, 0, 1), (0, 3, 0, 0, 0)):
            for other in itertools.product((-2, 0, 1), repeat=5):
                self.check_parts(ground, row, other)

    def test_the_very_list_twice_and_changed(self):
        ground = Ground(2, 2)
        row = [4, 2, 9]
        self.assertEqual(companion_parts(ground, row, row), (2, (0, 0, 11)))
        self.assertIs(go_together(ground, row, row), True)
        row[0] = 6
        self.assertEqual(companions(ground, row), ((3, 1, 0), 2))
        self.assertEqual(row, [6, 2, 9])


if __name__ == "__main__":
    unittest.main()

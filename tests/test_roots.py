"""roots.py: points [2] and [15]."""

import itertools
import random
import unittest

from bracketwords.doing import nothing, row_raised, rows_joined
from bracketwords.grounds import Ground
from bracketwords.roots import most_root, root
from tests.making import check_handing, deep_row, each_ground, is_number, is_row, made_rows

GREAT = 10 ** 60 - 1
POWERS = (1, 2, 3, 4, 6, 7, 12, 97, 10 ** 9 + 7, 10 ** 59, GREAT, 10 ** 60)


def some_rows(ground, size):
    rows = made_rows(ground, size, 3, "roots") + [nothing(ground)]
    return rows + [deep_row(ground, size, least, least) for least in range(1, ground.depth() + 1)]


def walked_root(ground, row, n, tried):
    """Point [15], place by place, by trying numbers for the root; tried: how far from 0."""
    found = [0] * ground.places()
    for place in range(ground.places()):
        fitting = []
        for number in range(-tried, tried + 1):
            found[place] = number
            if row_raised(ground, found, n)[place] == row[place]:
                fitting.append(number)
        if not fitting:
            return ("none", place)
        found[place] = fitting[0]
    return ("root", tuple(found))


def reckoned_root(ground, row, n):
    """The same for rows of any numbers: a place's own number counts n times, whatever the ones ahead are."""
    found = [0] * ground.places()
    for place in range(ground.places()):
        found[place] = 0
        without = row_raised(ground, found, n)[place]
        found[place] = 5
        assert row_raised(ground, found, n)[place] == without + 5 * n
        if (row[place] - without) % n != 0:
            return ("none", place)
        found[place] = (row[place] - without) // n
    return ("root", tuple(found))


class Root(unittest.TestCase):
    def test_ordinary(self):
        ground = Ground(2, 2)
        self.assertEqual(root(ground, (2, 2, -1), 2), ("root", (1, 1, 0)))
        self.assertEqual(root(ground, (2, 2, 0), 2), ("none", 2))
        self.assertEqual(root(ground, (2, 3, 0), 2), ("none", 1))
        self.assertEqual(root(ground, (3, 3, 0), 2), ("none", 0))
        self.assertEqual(root(ground, (-4, 0, 6), 2), ("root", (-2, 0, 3)))

    def check_root(self, ground, row, n):
        told = check_handing(self, root, ground, row, n)
        self.assertIs(type(told), tuple)
        self.assertEqual(len(told), 2)
        if told[0] == "root":
            self.assertTrue(is_row(ground, told[1]))
        else:
            self.assertTrue(is_number(told[1]))
        self.assertEqual(root(ground, row, n), told)
        return told

    def test_of_powers(self):
        for ground in each_ground():
            for size in (3, GREAT):
                for row in some_rows(ground, size):
                    for n in POWERS[:4] + POWERS[-3:]:
                        told = self.check_root(ground, row_raised(ground, row, n), n)
                        self.assertEqual(told, ("root", row))

    def test_by_1(self):
        for ground in each_ground():
            for row in some_rows(ground, GREAT):
                self.assertEqual(self.check_root(ground, row, 1), ("root", row))

    def test_nothing(self):
        for ground in each_ground():
            for n in POWERS:
                self.assertEqual(self.check_root(ground, nothing(ground), n), ("root", nothing(ground)))

    def test_every_small_row(self):
        for letters, depth, size in ((1, 3, 9), (2, 1, 5), (2, 2, 4), (2, 3, 2), (3, 1, 3)):
            ground = Ground(letters, depth)
            for row in itertools.product(range(-size, size + 1), repeat=ground.places()):
                if size > 2 or sum(row) % 9 == 0:
                    for n in (2, 3):
                        self.assertEqual(root(ground, row, n), walked_root(ground, row, n, 12))

    def test_a_number_changed(self):
        for ground in each_ground():
            for row in some_rows(ground, 4)[:2] + some_rows(ground, GREAT)[:1]:
                for n in (2, 6, GREAT):
                    power = row_raised(ground, row, n)
                    for place in range(0, ground.places(), max(1, ground.places() // 6)):
                        changed = power[:place] + (power[place] + 1,) + power[place + 1:]
                        self.assertEqual(self.check_root(ground, changed, n), ("none", place))

    def test_any_rows(self):
        kinds = set()
        for ground in each_ground():
            if ground.places() <= 14:
                for row in some_rows(ground, 60) + some_rows(ground, GREAT)[:2]:
                    for n in (2, 3, 10):
                        doubled = tuple(n * number for number in row)
                        for asked in (row, doubled):
                            told = self.check_root(ground, asked, n)
                            self.assertEqual(told, reckoned_root(ground, asked, n))
                            kinds.add((told[0], told[1] >= ground.letters() if told[0] == "none" else None))
        self.assertEqual(kinds, {("root", None), ("none", True), ("none", False)})

    def test_no_root_by_a_great_number(self):
        for ground in each_ground():
            for place in range(ground.places()):
                row = tuple(7 if at == place else 0 for at in range(ground.places()))
                self.assertEqual(root(ground, row, 10 ** 60), ("none", place))
                self.assertEqual(root(ground, row, 7)[0], "root")

    def test_the_very_list_changed(self):
        ground = Ground(2, 2)
        row = [2, 2, -1]
        self.assertEqual(root(ground, row, 2), ("root", (1, 1, 0)))
        row[2] = 1
        self.assertEqual(root(ground, row, 2), ("root", (1, 1, 1)))
        row[0] = 1
        self.assertEqual(root(ground, row, 2), ("none", 0))
        self.assertEqual(row, [1, 2, 1])


def walked_most(ground, row):
    """The greatest n, by trying all that may be."""
    for n in range(max(abs(number) for number in row), 0, -1):
        told, what = root(ground, row, n)
        if told == "root":
            return (what, n)
    return (tuple(row), 0)


class MostRoot(unittest.TestCase):
    def check_most(self, ground, row):
        told = check_handing(self, most_root, ground, row)
        self.assertIs(type(told), tuple)
        y, n = told
        self.assertTrue(is_row(ground, y) and is_number(n))
        self.assertEqual(most_root(ground, row), told)
        return told

    def test_ordinary(self):
        ground = Ground(2, 2)
        self.assertEqual(most_root(ground, (2, 2, -1)), ((1, 1, 0), 2))
        self.assertEqual(most_root(ground, (2, 2, 0)), ((2, 2, 0), 1))
        self.assertEqual(most_root(ground, (0, 0, -12)), ((0, 0, -1), 12))
        self.assertEqual(most_root(ground, (0, 30, 45)), ((0, 2, 3), 15))

    def test_nothing(self):
        for ground in each_ground():
            self.assertEqual(self.check_most(ground, nothing(ground)), (nothing(ground), 0))

    def test_small_rows(self):
        for ground in each_ground():
            if ground.places() <= 14:
                for row in made_rows(ground, 12, 6, "most"):
                    self.assertEqual(self.check_most(ground, row), walked_most(ground, row))

    def test_small_powers(self):
        for ground in each_ground():
            if ground.places() <= 8:
                for row in made_rows(ground, 2, 4, "small powers"):
                    for n in (-2, 2, 4, 6):
                        power = row_raised(ground, row, n)
                        self.assertEqual(self.check_most(ground, power), walked_most(ground, power))

    def test_powers(self):
        for ground in each_ground():
            for row in some_rows(ground, 3):
                y, most = self.check_most(ground, row)
                for n in (1, 2, 3, 8, 12, 30, 49):
                    power = row_raised(ground, row, n)
                    if any(row) and max(abs(number) for number in power) < 10 ** 6:
                        self.assertEqual(self.check_most(ground, power), (y, most * n))
                        back = row_raised(ground, row, -n)
                        self.assertEqual(self.check_most(ground, back), (row_raised(ground, y, -1), most * n))

    def test_great_powers_of_one_place(self):
        for ground in each_ground():
            for place in range(ground.places()):
                for number in (999999, -720720, 999983, -524288, 1, -1):
                    row = tuple(number if at == place else 0 for at in range(ground.places()))
                    y = tuple(n // abs(number) for n in row)
                    self.assertEqual(self.check_most(ground, row), (y, abs(number)))

    def test_great_numbers(self):
        source = random.Random("great numbers")
        for ground in each_ground():
            for shared in (1, 2, 60, 720, 27720):
                size = 999999 // shared
                row = tuple(source.choice((1, -1)) * shared * source.randint(1, size) for place in range(ground.places()))
                y, n = self.check_most(ground, row)
                self.assertEqual(row_raised(ground, y, n), row)
                # No root of the root is left, nor a greater one of the row.
                for more in range(2, 30):
                    self.assertEqual(root(ground, y, more)[0], "none")

    def test_roots_by_two_numbers(self):
        for ground in each_ground():
            row = deep_row(ground, 3, 1, "two numbers")
            y, most = most_root(ground, row)
            power = row_raised(ground, row, 12)
            for n in (4, 6):
                self.assertEqual(root(ground, power, n), ("root", row_raised(ground, row, 12 // n)))
            if max(abs(number) for number in power) < 10 ** 6:
                self.assertEqual(most_root(ground, power), (y, 12 * most))
            self.assertEqual(rows_joined(ground, row_raised(ground, row, 5), row_raised(ground, row, 7)), power)


if __name__ == "__main__":
    unittest.main()

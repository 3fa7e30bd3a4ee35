"""rules.py: points [2], [13] and [14]."""

import unittest

from bracketwords.choices import chosen
from bracketwords.doing import nothing, row_backed, row_raised, rows_joined
from bracketwords.errors import NoRules
from bracketwords.grounds import Ground
from bracketwords.rules import Rules
from tests.making import (
    PAIRS, check_handing, check_own_list, check_refused, deep_row, is_number, is_row, made_rows
)

GREAT = 10 ** 60 - 1
POWERS = (-10 ** 60, -GREAT, -10 ** 9, -3, -2, -1, 0, 1, 2, 3, 4, 7, 10 ** 9, GREAT, 10 ** 60)
WITH_RULES = [
    (1, 1), (1, 2), (1, 3), (1, 4), (2, 1), (2, 2), (2, 3), (2, 4), (3, 1), (3, 2), (3, 3), (4, 1), (4, 2)
]
EACH = [(Ground(letters, depth), Rules(Ground(letters, depth))) for letters, depth in WITH_RULES]


def some_rows(ground):
    """Rows of small numbers, of numbers below 0, and of great ones."""
    rows = made_rows(ground, 3, 4, "small") + made_rows(ground, GREAT, 4, "great")
    rows.append(tuple(-abs(n) for n in rows[0]))
    rows.append((-GREAT,) * ground.places())
    rows.append(nothing(ground))
    return rows + [deep_row(ground, 10 ** 9, least, least) for least in range(1, ground.depth() + 1)]


def some_pairs(ground):
    rows = some_rows(ground)
    return [(one, rows[at - back]) for at, one in enumerate(rows) for back in (0, 1, 4)]


class Making(unittest.TestCase):
    def test_refused_of_all_other_grounds(self):
        for letters, depth in PAIRS:
            if (letters, depth) not in WITH_RULES:
                check_refused(self, NoRules, Rules, Ground(letters, depth))

    def test_told_of_these(self):
        fits = [
            (letters, depth) for letters, depth in PAIRS if depth <= 4 and Ground(letters, depth).places() <= 14
        ]
        self.assertEqual(fits, WITH_RULES)

    def test_behind_a_refusal(self):
        ground = Ground(2, 5)
        check_refused(self, NoRules, Rules, ground)
        self.assertEqual((ground.letters(), ground.depth(), ground.places()), (2, 5, 14))
        self.assertEqual(Rules(Ground(2, 2)).rules_joined((0, 1, 0), (1, 0, 0)), (1, 1, -1))

    def test_ground(self):
        for ground, rules in EACH:
            told = rules.ground()
            self.assertIsInstance(told, Ground)
            self.assertEqual((told.letters(), told.depth()), (ground.letters(), ground.depth()))
            self.assertEqual(told.turnwords(), ground.turnwords())
            told.turnwords().clear()
            self.assertEqual(rules.ground().turnwords(), ground.turnwords())


class JoinedTerms(unittest.TestCase):
    def test_ordinary(self):
        rules = Rules(Ground(2, 3))
        self.assertEqual(rules.joined_terms(0), [(((0, 0, 1),), 1), (((1, 0, 1),), 1)])
        self.assertEqual(rules.joined_terms(2), [
            (((0, 1, 1), (1, 0, 1)), -1), (((0, 2, 1),), 1), (((1, 2, 1),), 1)
        ])
        self.assertEqual(rules.joined_terms(3), [
            (((0, 1, 1), (1, 0, 2)), 1), (((0, 2, 1), (1, 0, 1)), -1), (((0, 3, 1),), 1), (((1, 3, 1),), 1)
        ])

    def test_how_they_are_written(self):
        for ground, rules in EACH:
            for place in range(ground.places()):
                told = rules.joined_terms(place)
                self.assertIs(type(told), list)
                self.assertEqual(told, sorted(told))
                self.assertEqual(len(set(picks for picks, times in told)), len(told))
                for term in told:
                    self.assertIs(type(term), tuple)
                    picks, times = term
                    self.assertTrue(is_number(times) and times != 0)
                    self.check_picks(ground, place, picks)

    def check_picks(self, ground, asked, picks):
        self.assertIs(type(picks), tuple)
        self.assertEqual(list(picks), sorted(picks))
        self.assertEqual(len(set(pick[:2] for pick in picks)), len(picks))
        for pick in picks:
            self.assertIs(type(pick), tuple)
            side, place, k = pick
            self.assertTrue(is_number(side) and is_number(place) and is_number(k))
            self.assertIn(side, (0, 1))
            self.assertIn(place, range(ground.places()))
            self.assertGreaterEqual(k, 1)
        sizes = sum(ground.size_at(place) * k for side, place, k in picks)
        self.assertLessEqual(sizes, ground.size_at(asked))
        self.assertGreaterEqual(sizes, 1)

    def test_they_give_the_numbers(self):
        for ground, rules in EACH:
            terms = [rules.joined_terms(place) for place in range(ground.places())]
            for x, y in some_pairs(ground):
                expected = rows_joined(ground, x, y)
                for place in range(ground.places()):
                    number = 0
                    for picks, times in terms[place]:
                        for side, at, k in picks:
                            times *= chosen((x, y)[side][at], k)
                        number += times
                    self.assertEqual(number, expected[place])

    def test_told_lists_are_the_askers_own(self):
        for ground, rules in EACH:
            for place in range(ground.places()):
                kept = check_own_list(self, rules.joined_terms, place)
                rules.joined_terms(place).clear()
                self.assertEqual(rules.joined_terms(place), kept)
            x, y = some_rows(ground)[:2]
            self.assertEqual(rules.rules_joined(x, y), rows_joined(ground, x, y))


class RaisedTerms(unittest.TestCase):
    def test_ordinary(self):
        rules = Rules(Ground(2, 3))
        self.assertEqual(rules.raised_terms(1), [(((1, 1),), 1, 1)])
        self.assertEqual(rules.raised_terms(2), [(((0, 1), (1, 1)), -1, 2), (((2, 1),), 1, 1)])

    def test_of_the_same_picks_lesser_times_come_first(self):
        rules = Rules(Ground(2, 3))
        self.assertEqual(rules.raised_terms(4), [
            (((0, 1), (1, 1)), -2, 3), (((0, 1), (1, 1)), -1, 2), (((0, 1), (1, 2)), -4, 3),
            (((0, 1), (1, 2)), -3, 2), (((1, 1), (2, 1)), 1, 2), (((4, 1),), 1, 1)
        ])

    def test_how_they_are_written(self):
        for ground, rules in EACH:
            for place in range(ground.places()):
                told = rules.raised_terms(place)
                self.assertIs(type(told), list)
                self.assertEqual(told, sorted(told))
                self.assertEqual(len(set((picks, j) for picks, times, j in told)), len(told))
                for term in told:
                    self.assertIs(type(term), tuple)
                    picks, times, j = term
                    self.assertTrue(is_number(times) and times != 0)
                    self.assertTrue(is_number(j) and j >= 1)
                    self.check_picks(ground, place, picks)

    def check_picks(self, ground, asked, picks):
        self.assertIs(type(picks), tuple)
        self.assertEqual(list(picks), sorted(picks))
        self.assertEqual(len(set(place for place, k in picks)), len(picks))
        for pick in picks:
            self.assertIs(type(pick), tuple)
            place, k = pick
            self.assertTrue(is_number(place) and is_number(k))
            self.assertIn(place, range(ground.places()))
            self.assertGreaterEqual(k, 1)
        sizes = sum(ground.size_at(place) * k for place, k in picks)
        self.assertLessEqual(sizes, ground.size_at(asked))
        self.assertGreaterEqual(sizes, 1)

    def test_they_give_the_numbers(self):
        for ground, rules in EACH:
            terms = [rules.raised_terms(place) for place in range(ground.places())]
            for x in some_rows(ground):
                for n in POWERS:
                    expected = row_raised(ground, x, n)
                    for place in range(ground.places()):
                        number = 0
                        for picks, times, j in terms[place]:
                            for at, k in picks:
                                times *= chosen(x[at], k)
                            number += times * chosen(n, j)
                        self.assertEqual(number, expected[place])

    def test_told_lists_are_the_askers_own(self):
        for ground, rules in EACH:
            for place in range(ground.places()):
                kept = check_own_list(self, rules.raised_terms, place)
                rules.raised_terms(place).clear()
                self.assertEqual(rules.raised_terms(place), kept)
            x = some_rows(ground)[0]
            self.assertEqual(rules.rules_raised(x, 5), row_raised(ground, x, 5))


class ByTheTerms(unittest.TestCase):
    def test_ordinary(self):
        rules = Rules(Ground(2, 2))
        self.assertEqual(rules.rules_joined((0, 1, 0), (1, 0, 0)), (1, 1, -1))
        self.assertEqual(rules.rules_raised((1, 1, 0), 2), (2, 2, -1))
        self.assertEqual(rules.rules_backed((1, 1, 0)), (-1, -1, -1))

    def test_joined(self):
        for ground, rules in EACH:
            for x, y in some_pairs(ground):
                told = check_handing(self, rules.rules_joined, x, y)
                self.assertEqual(told, rows_joined(ground, x, y))
                self.assertTrue(is_row(ground, told))

    def test_raised(self):
        for ground, rules in EACH:
            for x in some_rows(ground):
                for n in POWERS:
                    told = check_handing(self, rules.rules_raised, x, n)
                    self.assertEqual(told, row_raised(ground, x, n))
                    self.assertTrue(is_row(ground, told))

    def test_backed(self):
        for ground, rules in EACH:
            for x in some_rows(ground):
                told = check_handing(self, rules.rules_backed, x)
                self.assertEqual(told, row_backed(ground, x))
                self.assertTrue(is_row(ground, told))
                self.assertEqual(rules.rules_joined(x, told), nothing(ground))

    def test_told_rows_handed_in_again(self):
        for ground, rules in EACH:
            row = some_rows(ground)[4]
            for time in range(3):
                row = rules.rules_joined(row, row)
            self.assertEqual(row, rules.rules_raised(some_rows(ground)[4], 8))

    def test_the_very_list_twice_and_changed(self):
        rules = Rules(Ground(2, 2))
        row = [1, 1, 0]
        self.assertEqual(rules.rules_joined(row, row), (2, 2, -1))
        self.assertEqual(row, [1, 1, 0])
        row[1] = 0
        self.assertEqual(rules.rules_joined(row, row), (2, 0, 0))
        self.assertEqual(rules.rules_raised(row, 3), (3, 0, 0))

    def test_two_rules_by_turns(self):
        for time in (1, 2):
            for ground, rules in EACH:
                x, y = some_rows(ground)[:2]
                self.assertEqual(rules.rules_joined(x, y), rows_joined(ground, x, y))
                self.assertEqual(rules.rules_raised(y, -4), row_raised(ground, y, -4))
        one, other = Rules(Ground(2, 3)), Rules(Ground(2, 3))
        one.joined_terms(3).clear()
        self.assertEqual(one.joined_terms(3), other.joined_terms(3))
        self.assertIsNot(one.joined_terms(3), other.joined_terms(3))


if __name__ == "__main__":
    unittest.main()

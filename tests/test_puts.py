"""puts.py: points [2], [20] and [21]."""

import itertools
import random
import unittest

from bracketwords.doing import (
    letter_rows, nothing, place_row, row_backed, row_raised, row_turned, rows_bracketed, rows_joined
)
from bracketwords.grounds import Ground
from bracketwords.puts import Put
from bracketwords.errors import NoPut
from bracketwords.rows import row_of, spelled
from bracketwords.words import backed, joined
from tests.making import (
    PAIRS, check_asking, check_handing, check_own_list, check_refused, each_ground, few_words, is_number, is_row,
    made_rows, made_words
)

GREAT = 10 ** 60 - 1
# Pairs of a ground and a goal that is at most as deep, with all kinds of letters and depths among them.
WAYS = [
    ((1, 1), (1, 1)), ((1, 3), (2, 2)), ((1, 5), (3, 1)), ((2, 1), (1, 1)), ((2, 2), (2, 2)), ((2, 3), (2, 3)),
    ((2, 3), (3, 2)), ((2, 3), (4, 3)), ((2, 4), (2, 4)), ((2, 4), (3, 4)), ((2, 5), (2, 5)), ((2, 5), (3, 3)),
    ((3, 1), (2, 1)), ((3, 2), (3, 2)), ((3, 3), (2, 3)), ((3, 4), (2, 4)), ((4, 1), (4, 1)), ((4, 2), (2, 2)),
    ((4, 3), (1, 3)), ((4, 3), (4, 2)), ((3, 3), (3, 3)),
]


def some_ways():
    return [(Ground(*one), Ground(*other)) for one, other in WAYS]


def drawn_put(ground, goal, size, seed):
    """A Put of drawn rows, and the rows."""
    rows = made_rows(goal, size, ground.letters(), seed)
    return Put(ground, goal, rows), rows


def put_into(word, words):
    """The word in which each letter is its word, each back that word backed."""
    told = ()
    for step in word:
        told = joined(told, words[step - 1] if step > 0 else backed(words[-step - 1]))
    return told


def by_places(ground, goal, put, row):
    """The row's brackets put in, raised and joined in order."""
    told = nothing(goal)
    for place, n in enumerate(row):
        told = rows_joined(goal, told, row_raised(goal, put.put_place(place), n))
    return told


def are_the_same(ground, one, other):
    """Whether both Puts do the same, of letters, a word and a row."""
    word = made_words(ground.letters(), [9], "the same")[0]
    row = made_rows(ground, 9, 1, "the same")[0]
    return (one.rows(), one.put_word(word), one.put_row(row)) == (other.rows(), other.put_word(word), other.put_row(row))


def even_order(order):
    """The sign of an order: 1 where an even number of pairs stand the wrong way about."""
    wrong = [(one, two) for one, two in itertools.combinations(order, 2) if one > two]
    return 1 if len(wrong) % 2 == 0 else -1


def all_orders(numbers):
    """The sum over all orders, as point [21] tells it."""
    total = 0
    for order in itertools.permutations(range(len(numbers))):
        product = even_order(order)
        for line, at in zip(numbers, order):
            product *= line[at]
        total += product
    return total


def straight_rows(ground, source, size, steps=8):
    """Rows whose numbers at the letters have the turning 1 or -1: rows are added to one another and exchanged."""
    letters = ground.letters()
    lines = [list(row[:letters]) for row in letter_rows(ground)]
    for step in range(steps):
        one, other = source.randrange(letters), source.randrange(letters)
        if one == other:
            lines[one] = [-number for number in lines[one]]
        else:
            times = source.randint(-size, size)
            lines[one] = [two + times * more for two, more in zip(lines[one], lines[other])]
    source.shuffle(lines)
    deep = ground.places() - letters
    return [tuple(line) + tuple(source.randint(-size, size) for place in range(deep)) for line in lines]


class Made(unittest.TestCase):
    def test_another_count(self):
        for ground, goal in some_ways():
            for many in range(6):
                rows = made_rows(goal, 5, many, "count")
                if many == ground.letters():
                    self.assertEqual(Put(ground, goal, rows).rows(), rows)
                else:
                    check_refused(self, NoPut, Put, ground, goal, rows)
                    check_refused(self, NoPut, Put, ground, goal, tuple(rows))

    def test_a_deeper_goal(self):
        for (letters, depth), (more, deeper) in itertools.product(PAIRS, PAIRS):
            ground, goal = Ground(letters, depth), Ground(more, deeper)
            rows = [nothing(goal)] * letters
            if deeper > depth:
                check_refused(self, NoPut, Put, ground, goal, rows)
            else:
                self.assertEqual(Put(ground, goal, rows).rows(), rows)

    def test_both(self):
        check_refused(self, NoPut, Put, Ground(2, 1), Ground(2, 2), [])

    def test_keeps_no_list(self):
        ground = Ground(2, 2)
        rows = [[0, 1, 0], [1, 0, 0]]
        put = Put(ground, ground, rows)
        before = (put.rows(), put.put_word((1, 2)), put.put_row((1, 1, 1)), put.put_place(2), put.turning())
        rows[0][0] = 7
        rows.append([1, 1, 1])
        self.assertEqual(
            (put.rows(), put.put_word((1, 2)), put.put_row((1, 1, 1)), put.put_place(2), put.turning()), before
        )
        self.assertEqual(rows, [[7, 1, 0], [1, 0, 0], [1, 1, 1]])
        rows.pop()
        self.assertEqual(Put(ground, ground, rows).rows(), [(7, 1, 0), (1, 0, 0)])

    def test_lists_and_tuples(self):
        ground = Ground(2, 3)
        rows = made_rows(ground, GREAT, 2, "shapes")
        expected = Put(ground, ground, rows)
        for shape in (tuple(rows), [list(row) for row in rows], tuple(list(row) for row in rows)):
            put = Put(ground, ground, shape)
            self.assertTrue(are_the_same(ground, put, expected))
            self.assertTrue(all(is_row(ground, row) for row in put.rows()))


class PutWord(unittest.TestCase):
    def test_ordinary(self):
        ground = Ground(2, 2)
        put = Put(ground, ground, [(0, 1, 0), (1, 0, 0)])
        self.assertEqual(put.put_word(()), (0, 0, 0))
        self.assertEqual(put.put_word((1,)), (0, 1, 0))
        self.assertEqual(put.put_word((-2,)), (-1, 0, 0))
        self.assertEqual(put.put_word((1, 2)), (1, 1, -1))
        self.assertEqual(put.put_word((-1, -2, 1, 2)), (0, 0, -1))

    def test_beside_words(self):
        for ground, goal in some_ways():
            words = made_words(goal.letters(), [5, 0, 3, 8], "into")[:ground.letters()]
            put = Put(ground, goal, [row_of(goal, word) for word in words])
            for word in few_words(ground) + made_words(ground.letters(), [60], "long"):
                told = check_handing(self, put.put_word, word)
                self.assertTrue(is_row(goal, told))
                self.assertEqual(told, row_of(goal, put_into(word, words)))

    def test_alike_words(self):
        for ground, goal in some_ways():
            put, rows = drawn_put(ground, goal, GREAT, "alike")
            deep = (1,)
            for time in range(min(ground.depth(), 3)):
                deep = joined(joined(backed(deep), backed((ground.letters(),))), joined(deep, (ground.letters(),)))
            word = made_words(ground.letters(), [7], "alike")[0]
            self.assertEqual(put.put_word(joined(word, (1, -1))), put.put_word(word))
            if ground.depth() <= 3:
                self.assertEqual(put.put_word(word[:3] + deep + word[3:]), put.put_word(word))
            self.assertEqual(put.put_word(word), put.put_row(row_of(ground, word)))


class PutRow(unittest.TestCase):
    def test_ordinary(self):
        ground = Ground(2, 2)
        put = Put(ground, ground, [(2, 0, 0), (0, 3, 0)])
        self.assertEqual(put.put_row((0, 0, 0)), (0, 0, 0))
        self.assertEqual(put.put_row((1, 1, 0)), (2, 3, 0))
        self.assertEqual(put.put_row((0, 0, 5)), (0, 0, 30))
        self.assertEqual(put.put_row((0, 0, 10 ** 60)), (0, 0, 6 * 10 ** 60))

    def test_beside_put_word(self):
        for ground, goal in some_ways():
            put, rows = drawn_put(ground, goal, 9, "beside")
            for row in made_rows(ground, 1, 3, "row's word") + [nothing(ground)]:
                told = check_handing(self, put.put_row, row)
                self.assertTrue(is_row(goal, told))
                self.assertEqual(told, put.put_word(spelled(ground, row)))

    def test_great_numbers(self):
        for ground, goal in some_ways():
            put, rows = drawn_put(ground, goal, 99, "great put")
            greater, rows = drawn_put(ground, goal, GREAT, "greater put")
            for row in made_rows(ground, GREAT, 2, "great row"):
                self.assertEqual(put.put_row(row), by_places(ground, goal, put, row))
                self.assertEqual(greater.put_row(row), by_places(ground, goal, greater, row))

    def test_one_great_number(self):
        for ground, goal in some_ways():
            put, rows = drawn_put(ground, goal, 9, "one great")
            for place in range(ground.places()):
                for n in (GREAT, -GREAT):
                    row = tuple(n * number for number in place_row(ground, place))
                    self.assertEqual(put.put_row(row), row_raised(goal, put.put_place(place), n))

    def test_done_ahead_and_behind(self):
        for ground, goal in some_ways():
            put, rows = drawn_put(ground, goal, 10 ** 9, "done")
            one, other = made_rows(ground, 10 ** 9, 2, "done ahead")
            first, second = put.put_row(one), put.put_row(other)
            for done in (rows_joined, rows_bracketed, row_turned):
                self.assertEqual(put.put_row(done(ground, one, other)), done(goal, first, second))
            self.assertEqual(put.put_row(row_backed(ground, one)), row_backed(goal, first))
            for n in (-10 ** 60, -3, 0, 10 ** 60):
                self.assertEqual(put.put_row(row_raised(ground, one, n)), row_raised(goal, first, n))

    def test_letters_for_themselves(self):
        for ground in each_ground():
            put = Put(ground, ground, letter_rows(ground))
            for row in made_rows(ground, GREAT, 2, "themselves"):
                self.assertEqual(put.put_row(row), row)


class PutPlace(unittest.TestCase):
    def test_each_place(self):
        for ground, goal in some_ways():
            put, rows = drawn_put(ground, goal, 99, "places")
            for place in range(ground.places()):
                told = put.put_place(place)
                self.assertTrue(is_row(goal, told))
                self.assertEqual(told, put.put_row(place_row(ground, place)))
                self.assertEqual(told, put.put_word(ground.bracket_at(place)))
                parts = ground.parts_at(place)
                if parts is None:
                    self.assertEqual(told, rows[place])
                else:
                    self.assertEqual(told, rows_bracketed(goal, put.put_place(parts[0]), put.put_place(parts[1])))

    def test_ordinary(self):
        put = Put(Ground(2, 3), Ground(2, 2), [(1, 0, 0), (1, 1, 0)])
        self.assertEqual([put.put_place(place) for place in range(5)], [
            (1, 0, 0), (1, 1, 0), (0, 0, 1), (0, 0, 0), (0, 0, 0),
        ])


class Rows(unittest.TestCase):
    def test_own_list(self):
        for ground, goal in some_ways():
            put, rows = drawn_put(ground, goal, GREAT, "rows")
            self.assertEqual(check_own_list(self, put.rows), rows)
            self.assertTrue(all(is_row(goal, row) for row in put.rows()))
            for asked in (put.rows, put.numbers):
                check_asking(self, asked)


class Behind(unittest.TestCase):
    def test_ordinary(self):
        ground = Ground(2, 2)
        twice = Put(ground, ground, [(2, 0, 0), (0, 1, 0)])
        exchange = Put(ground, ground, [(0, 1, 0), (1, 0, 0)])
        self.assertEqual(twice.behind(exchange).rows(), [(0, 1, 0), (2, 0, 0)])
        self.assertEqual(exchange.behind(twice).rows(), [(0, 2, 0), (1, 0, 0)])
        self.assertEqual(exchange.behind(exchange).rows(), [(1, 0, 0), (0, 1, 0)])

    def test_one_behind_the_other(self):
        for ground, middle in some_ways():
            for goal in (middle, Ground(2, 1), Ground(3, 1)):
                first, rows = drawn_put(ground, middle, 9, "first")
                second, rows = drawn_put(middle, goal, 9, "second")
                both = second.behind(first)
                self.assertIsInstance(both, Put)
                for row in made_rows(ground, GREAT, 2, "both"):
                    self.assertEqual(both.put_row(row), second.put_row(first.put_row(row)))
                for word in few_words(ground)[::4]:
                    self.assertEqual(both.put_word(word), second.put_row(first.put_word(word)))
                for place in range(ground.places()):
                    self.assertEqual(both.put_place(place), second.put_row(first.put_place(place)))
                self.assertEqual(both.rows(), [second.put_row(row) for row in first.rows()])

    def test_whichever_two_come_first(self):
        for pairs in (
            ((2, 3), (2, 3), (2, 3), (2, 3)), ((3, 3), (2, 3), (3, 2), (1, 1)), ((2, 4), (2, 4), (3, 2), (4, 2)),
            ((4, 2), (3, 2), (2, 2), (2, 1)), ((1, 5), (2, 5), (2, 4), (3, 4)),
        ):
            grounds = [Ground(letters, depth) for letters, depth in pairs]
            puts = [drawn_put(one, other, 5, "three")[0] for one, other in zip(grounds, grounds[1:])]
            one = puts[2].behind(puts[1]).behind(puts[0])
            other = puts[2].behind(puts[1].behind(puts[0]))
            self.assertTrue(are_the_same(grounds[0], one, other))

    def test_goes_its_own_way(self):
        ground = Ground(2, 2)
        first, rows = drawn_put(ground, ground, 9, "own first")
        second, rows = drawn_put(ground, ground, 9, "own second")
        kept = (first.rows(), second.rows(), first.put_row((1, 2, 3)), second.put_row((1, 2, 3)))
        both = second.behind(first)
        both.rows().append("changed")
        self.assertEqual((first.rows(), second.rows(), first.put_row((1, 2, 3)), second.put_row((1, 2, 3))), kept)

    def test_other_letters_or_depth(self):
        for one, other in itertools.product(((1, 1), (1, 2), (2, 1), (2, 2), (2, 3), (3, 2)), repeat=2):
            first, rows = drawn_put(Ground(2, 3), Ground(*one), 9, "first")
            second, rows = drawn_put(Ground(*other), Ground(2, 1), 9, "second")
            if one == other:
                self.assertIsInstance(second.behind(first), Put)
            else:
                check_refused(self, NoPut, second.behind, first)

    def test_another_ground_of_the_same_kind(self):
        first, rows = drawn_put(Ground(2, 2), Ground(2, 2), 9, "kind")
        second, rows = drawn_put(Ground(2, 2), Ground(2, 2), 9, "kind")
        self.assertIsInstance(second.behind(first), Put)


class Numbers(unittest.TestCase):
    def test_first_numbers(self):
        for ground, goal in some_ways():
            put, rows = drawn_put(ground, goal, GREAT, "numbers")
            told = check_own_list(self, put.numbers)
            self.assertEqual(told, [row[:goal.letters()] for row in rows])
            self.assertTrue(all(type(line) is tuple for line in told))


class Turning(unittest.TestCase):
    def square_puts(self, size, many):
        for (letters, depth), (more, deeper) in itertools.product(PAIRS, PAIRS):
            if letters == more and deeper <= depth and (depth <= 2 or deeper == depth):
                ground, goal = Ground(letters, depth), Ground(more, deeper)
                for time in range(many):
                    yield drawn_put(ground, goal, size, time)

    def test_ordinary(self):
        ground = Ground(2, 2)
        self.assertEqual(Put(ground, ground, [(1, 2, 5), (3, 4, 6)]).turning(), -2)
        self.assertEqual(Put(ground, ground, [(0, 1, 5), (1, 0, 6)]).turning(), -1)
        self.assertEqual(Put(Ground(1, 1), Ground(1, 1), [(-7,)]).turning(), -7)
        self.assertEqual(Put(Ground(3, 1), Ground(3, 1), [(0, 1, 0), (0, 0, 1), (1, 0, 0)]).turning(), 1)

    def test_all_orders(self):
        for size in (1, 9, GREAT):
            for put, rows in self.square_puts(size, 2):
                told = put.turning()
                self.assertTrue(is_number(told))
                self.assertEqual(told, all_orders(put.numbers()))
                self.assertEqual(put.turning(), told)

    def test_rows_exchanged(self):
        for letters, depth in ((2, 3), (3, 2), (4, 1)):
            ground = Ground(letters, depth)
            for time in range(4):
                put, rows = drawn_put(ground, ground, 99, time * 2)
                for one, other in itertools.combinations(range(letters), 2):
                    exchanged = list(rows)
                    exchanged[one], exchanged[other] = rows[other], rows[one]
                    self.assertEqual(Put(ground, ground, exchanged).turning(), -put.turning())

    def test_rows_that_are_alike(self):
        for letters in (2, 3, 4):
            ground = Ground(letters, 2)
            rows = made_rows(ground, 99, letters, "alike")
            self.assertEqual(Put(ground, ground, [rows[0]] + rows[:-1]).turning(), 0)
            self.assertEqual(Put(ground, ground, letter_rows(ground)).turning(), 1)

    def test_of_one_behind_another(self):
        for letters, depth in PAIRS:
            ground = Ground(letters, depth)
            first, rows = drawn_put(ground, ground, 99, "one")
            second, rows = drawn_put(ground, ground, 99, "other")
            self.assertEqual(second.behind(first).turning(), first.turning() * second.turning())


class Undone(unittest.TestCase):
    def test_ordinary(self):
        ground = Ground(2, 2)
        self.assertEqual(Put(ground, ground, [(0, 1, 0), (1, 0, 0)]).undone().rows(), [(0, 1, 0), (1, 0, 0)])
        self.assertEqual(Put(ground, ground, [(1, 1, 0), (0, 1, 0)]).undone().rows(), [(1, -1, 0), (0, 1, 0)])
        self.assertEqual(Put(ground, ground, [(1, 0, 3), (0, -1, 4)]).undone().rows(), [(1, 0, 3), (0, -1, -4)])
        self.assertEqual(Put(ground, ground, [(1, 0, 3), (0, 1, 4)]).undone().rows(), [(1, 0, -3), (0, 1, -4)])

    def check_undone(self, ground, put):
        kept = put.rows()
        told = put.undone()
        self.assertIsInstance(told, Put)
        self.assertEqual(told.behind(put).rows(), letter_rows(ground))
        self.assertEqual(put.behind(told).rows(), letter_rows(ground))
        self.assertEqual(put.rows(), kept)
        self.assertEqual(put.undone().rows(), told.rows())
        self.assertEqual(told.undone().rows(), kept)
        for row in made_rows(ground, GREAT, 1, "undone"):
            self.assertEqual(told.put_row(put.put_row(row)), row)
            self.assertEqual(put.put_row(told.put_row(row)), row)

    def undoing_grounds(self):
        return [ground for ground in each_ground() if ground.depth() <= 4 and ground.places() <= 14]

    def test_drawn(self):
        source = random.Random("undone")
        for ground in self.undoing_grounds():
            for size in (1, 4, 4, 99, 10 ** 9):
                put = Put(ground, ground, straight_rows(ground, source, size))
                self.assertIn(put.turning(), (1, -1))
                self.check_undone(ground, put)

    def test_deeper_brackets_alone(self):
        for ground in self.undoing_grounds():
            deep = made_rows(ground, GREAT, 4, "deeper")
            rows = [
                letter[:ground.letters()] + row[ground.letters():]
                for letter, row in zip(letter_rows(ground), deep)
            ]
            self.check_undone(ground, Put(ground, ground, rows))

    def test_orders_and_backs(self):
        for ground in self.undoing_grounds():
            letters = letter_rows(ground)
            for order in itertools.permutations(letters):
                rows = [row_raised(ground, row, (-1) ** at) for at, row in enumerate(order)]
                self.check_undone(ground, Put(ground, ground, rows))

    def test_other_letters_or_depth(self):
        for one, other in itertools.product(((1, 1), (1, 2), (2, 1), (2, 2), (2, 3), (3, 2), (3, 3)), repeat=2):
            ground, goal = Ground(*one), Ground(*other)
            if one != other and goal.depth() <= ground.depth():
                rows = [(letter_rows(goal) * 3)[at] for at in range(ground.letters())]
                check_refused(self, NoPut, Put(ground, goal, rows).undone)

    def test_too_deep_or_too_many_places(self):
        refused = 0
        for ground in each_ground():
            put = Put(ground, ground, letter_rows(ground))
            if ground.depth() > 4 or ground.places() > 14:
                check_refused(self, NoPut, put.undone)
                refused += 1
            else:
                self.assertEqual(put.undone().rows(), letter_rows(ground))
        self.assertEqual(refused, 4)

    def test_another_turning(self):
        for ground in self.undoing_grounds():
            letters = letter_rows(ground)
            for n in (0, 2, -2, 3):
                rows = [row_raised(ground, letters[0], n)] + letters[1:]
                check_refused(self, NoPut, Put(ground, ground, rows).undone)

    def test_all_as_ahead_behind_a_refusal(self):
        ground = Ground(2, 2)
        put = Put(ground, ground, [(2, 0, 1), (0, 1, 5)])
        kept = (put.rows(), put.put_row((1, 1, 1)))
        check_refused(self, NoPut, put.undone)
        check_refused(self, NoPut, put.behind, Put(Ground(1, 2), Ground(1, 2), [(1,)]))
        self.assertEqual((put.rows(), put.put_row((1, 1, 1))), kept)


class ByTurns(unittest.TestCase):
    def test_two_puts_keep_their_own(self):
        for ground, goal in some_ways():
            one, rows = drawn_put(ground, goal, 9, "one")
            other, rows = drawn_put(ground, goal, 9, "other")
            row = made_rows(ground, 9, 1, "by turns")[0]
            kept = (one.put_row(row), other.put_row(row), one.rows(), other.rows())
            for time in range(2):
                self.assertEqual((one.put_row(row), other.put_row(row), one.rows(), other.rows()), kept)
            alone, rows = drawn_put(ground, goal, 9, "other")
            self.assertEqual(alone.put_row(row), kept[1])

    def test_the_very_list_changed_in_place(self):
        ground = Ground(2, 2)
        put = Put(ground, ground, [(2, 0, 0), (0, 3, 0)])
        row, word = [1, 0, 0], [1, 2]
        self.assertEqual(put.put_row(row), (2, 0, 0))
        row[1] = 1
        self.assertEqual(put.put_row(row), (2, 3, 0))
        self.assertEqual(put.put_word(word), (2, 3, 0))
        word.reverse()
        self.assertEqual(put.put_word(word), (2, 3, -6))
        self.assertEqual((row, word), ([1, 1, 0], [2, 1]))


if __name__ == "__main__":
    unittest.main()

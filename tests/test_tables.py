"""tables.py: points [2], [17], [18] and [19]."""

import itertools
import random
import unittest

from bracketwords.doing import (
    deepness, letter_rows, nothing, place_row, row_backed, row_raised, row_turned, rows_bracketed, rows_joined
)
from bracketwords.grounds import Ground
from bracketwords.tables import divided, how_spread, is_steady, is_table, table_of
from tests.making import check_asking, drawn_group, is_number, is_row, made_rows, small_grounds

GREAT = 10 ** 60 - 1


def head_of(row):
    """The pair of the place and the number of the row's head."""
    return next((place, number) for place, number in enumerate(row) if number != 0)


def has_form(ground, table):
    """Heads at rising places, above 0, and numbers from 0 to the head less 1 in the rows ahead."""
    if not all(is_row(ground, row) and any(row) for row in table):
        return False
    heads = [head_of(row) for row in table]
    places = [place for place, number in heads]
    return (
        places == sorted(set(places))
        and all(number > 0 for place, number in heads)
        and all(0 <= row[place] < number for at, (place, number) in enumerate(heads) for row in table[:at])
    )


def joined_powers(ground, table, powers):
    """The rows, raised and joined in order."""
    told = nothing(ground)
    for row, n in zip(table, powers, strict=True):
        told = rows_joined(ground, told, row_raised(ground, row, n))
    return told


def walked_division(ground, table, row):
    """Point [18]'s own way, place by place."""
    heads = {head_of(line)[0]: at for at, line in enumerate(table)}
    powers, rest = [0] * len(table), tuple(row)
    for place in range(ground.places()):
        if rest[place] == 0:
            continue
        at = heads.get(place)
        if at is None or rest[place] % table[at][place] != 0:
            return ("out", place, rest)
        n = rest[place] // table[at][place]
        powers[at] = n
        rest = rows_joined(ground, row_raised(ground, table[at], -n), rest)
    return ("in", tuple(powers))


def subtracted(ground, rows):
    """The table of rows that are added number by number: they are subtracted from one another till it's there."""
    pool, table = [list(row) for row in rows], []
    for place in range(ground.places()):
        while len([row for row in pool if row[place]]) > 1:
            first, second = sorted([row for row in pool if row[place]], key=lambda row: abs(row[place]))[:2]
            times = second[place] // first[place]
            second[:] = [two - times * one for one, two in zip(first, second)]
        for row in [row for row in pool if row[place]]:
            pool.remove(row)
            if row[place] < 0:
                row = [-number for number in row]
            for ahead in table:
                times = ahead[place] // row[place]
                ahead[:] = [two - times * one for one, two in zip(row, ahead)]
            table.append(row)
    return [tuple(row) for row in table]


def drawn_tables(seed, many):
    """Pairs of a ground and the table of a group on it."""
    source = random.Random(seed)
    return [
        (ground, table_of(ground, drawn_group(ground, source)))
        for ground in small_grounds() for time in range(many)
    ]


class TableOf(unittest.TestCase):
    def test_ordinary(self):
        ground = Ground(2, 2)
        self.assertEqual(table_of(ground, [(1, 0, 0), (0, 1, 0)]), [(1, 0, 0), (0, 1, 0), (0, 0, 1)])
        self.assertEqual(table_of(ground, [(2, 0, 0), (0, 3, 0)]), [(2, 0, 0), (0, 3, 0), (0, 0, 6)])
        self.assertEqual(table_of(ground, [(4, 0, 0), (6, 0, 0)]), [(2, 0, 0)])
        self.assertEqual(table_of(ground, [(0, -3, 5)]), [(0, 3, -5)])
        self.assertEqual(table_of(ground, [(2, 5, 9), (0, 2, 0)]), [(2, 1, 1), (0, 2, 0), (0, 0, 4)])

    def test_few_rows(self):
        for ground in small_grounds():
            none = nothing(ground)
            self.assertEqual(table_of(ground, []), [])
            self.assertEqual(table_of(ground, ()), [])
            self.assertEqual(table_of(ground, [none]), [])
            self.assertEqual(table_of(ground, [none, none]), [])
            for row in made_rows(ground, 99, 6, "one row"):
                expected = [] if not any(row) else [row if head_of(row)[1] > 0 else row_backed(ground, row)]
                for rows in ([row], [row, row], [row, none], [none, row], [row, row_backed(ground, row)]):
                    self.assertEqual(table_of(ground, rows), expected)

    def test_letters_make_all(self):
        for ground in small_grounds():
            letters = letter_rows(ground)
            every = [place_row(ground, place) for place in range(ground.places())]
            self.assertEqual(table_of(ground, letters), every)
            self.assertEqual(table_of(ground, letters[::-1]), every)

    def check_members(self, ground, rows, table):
        """All that comes of the rows is in."""
        members = list(rows) + [row_backed(ground, row) for row in rows]
        for one, other in itertools.product(rows, rows):
            members.append(rows_joined(ground, one, other))
            members.append(rows_bracketed(ground, one, other))
        for row in rows:
            members += [row_raised(ground, row, n) for n in (-10 ** 60, -7, 0, 2, 10 ** 60)]
        for row in members:
            told = divided(ground, table, row)
            self.assertEqual(told[0], "in")
            self.assertEqual(joined_powers(ground, table, told[1]), row)

    def test_form_and_members(self):
        source = random.Random("members")
        for ground in small_grounds():
            for time in range(12):
                rows = drawn_group(ground, source)
                table = table_of(ground, rows)
                self.assertIs(type(table), list)
                self.assertTrue(has_form(ground, table), (rows, table))
                self.check_members(ground, rows, table)
                # The table's own rows, too, in whatever order they are joined.
                self.check_members(ground, table, table)

    def test_the_same_group(self):
        source = random.Random("the same")
        for ground in small_grounds():
            for time in range(12):
                rows = drawn_group(ground, source, 3)
                if len(rows) > 1:
                    self.check_same_group(ground, rows, source)

    def check_same_group(self, ground, rows, source):
        table = table_of(ground, rows)
        first, second, rest = rows[0], rows[1], rows[2:]
        member = row_raised(ground, rows_bracketed(ground, rows_joined(ground, first, second), rows[-1]), -3)
        others = [
            rows[::-1],
            rows[1:] + rows[:1],
            [row_backed(ground, first), second] + rest,
            [rows_joined(ground, first, second), second] + rest,
            [first, rows_joined(ground, first, row_backed(ground, second))] + rest,
            [row_turned(ground, first, second), second] + rest,
            rows + [member],
            [member] + rows,
            table,
            table[::-1],
        ]
        for other in others:
            self.assertEqual(table_of(ground, other), table)

    def test_greater_groups_and_others(self):
        # A row that is not in makes another group, and its table has the old rows in it.
        source = random.Random("greater")
        for ground in small_grounds():
            for time in range(6):
                rows = drawn_group(ground, source, 3)
                table = table_of(ground, rows)
                more = made_rows(ground, 5, 1, time)[0]
                greater = table_of(ground, rows + [more])
                self.assertIs(greater == table, divided(ground, table, more)[0] == "in")
                self.assertTrue(all(divided(ground, greater, row)[0] == "in" for row in rows + [more]))

    def test_deep_rows_are_subtracted(self):
        source = random.Random("deep")
        for ground in small_grounds():
            for time in range(10):
                rows = [
                    tuple(
                        source.randint(-99, 99) if 2 * ground.size_at(place) > ground.depth() else 0
                        for place in range(ground.places())
                    )
                    for row in range(source.randint(1, 4))
                ]
                self.assertEqual(table_of(ground, rows), subtracted(ground, rows))

    def test_the_asker_s_own(self):
        source = random.Random("own tables")
        for ground in small_grounds():
            for time in range(3):
                check_asking(self, table_of, ground, drawn_group(ground, source))

    def test_the_very_list_changed_in_place(self):
        ground = Ground(2, 2)
        row = [4, 0, 0]
        rows = [row, [6, 0, 0]]
        self.assertEqual(table_of(ground, rows), [(2, 0, 0)])
        row[0] = 3
        self.assertEqual(table_of(ground, rows), [(3, 0, 0)])
        rows.append([1, 0, 0])
        self.assertEqual(table_of(ground, rows), [(1, 0, 0)])
        rows.clear()
        self.assertEqual(table_of(ground, rows), [])

    def test_beyond_the_bounds(self):
        for ground in (Ground(3, 3), Ground(2, 5)):
            rows = made_rows(ground, 999, 6, "beyond")
            table = table_of(ground, rows)
            self.assertTrue(has_form(ground, table))
            self.assertTrue(all(divided(ground, table, row)[0] == "in" for row in rows))


class Divided(unittest.TestCase):
    def test_ordinary(self):
        ground = Ground(2, 2)
        table = [(2, 1, 0), (0, 0, 4)]
        self.assertEqual(divided(ground, table, (0, 0, 0)), ("in", (0, 0)))
        self.assertEqual(divided(ground, table, (4, 2, -2)), ("in", (2, 0)))
        self.assertEqual(divided(ground, table, (4, 2, 2)), ("in", (2, 1)))
        self.assertEqual(divided(ground, table, (4, 2, 0)), ("out", 2, (0, 0, 2)))
        self.assertEqual(divided(ground, table, (3, 2, 0)), ("out", 0, (3, 2, 0)))
        self.assertEqual(divided(ground, table, (2, 2, 0)), ("out", 1, (0, 1, 0)))
        self.assertEqual(divided(ground, [], (0, 0, 1)), ("out", 2, (0, 0, 1)))
        self.assertEqual(divided(ground, [], (0, 0, 0)), ("in", ()))

    def check_division(self, ground, table, row):
        told = divided(ground, table, row)
        self.assertIs(type(told), tuple)
        self.assertEqual(told, walked_division(ground, table, row))
        if told[0] == "in":
            self.assertEqual(len(told), 2)
            self.assertTrue(type(told[1]) is tuple and all(is_number(n) for n in told[1]))
            self.assertEqual(len(told[1]), len(table))
            self.assertEqual(joined_powers(ground, table, told[1]), row)
        else:
            self.assertEqual(len(told), 3)
            self.assertTrue(is_number(told[1]) and is_row(ground, told[2]))
            self.assertEqual(deepness(ground, told[2]), ground.size_at(told[1]))
        return told[0]

    def test_the_document_s_way(self):
        kinds = set()
        for ground, table in drawn_tables("ways", 8):
            for row in made_rows(ground, GREAT, 2, "great") + made_rows(ground, 9, 4, "small") + [nothing(ground)]:
                kinds.add(self.check_division(ground, table, row))
        self.assertEqual(kinds, {"in", "out"})

    def test_members_and_neighbours(self):
        source = random.Random("neighbours")
        for ground, table in drawn_tables("near", 6):
            powers = tuple(source.randint(-GREAT, GREAT) for row in table)
            member = joined_powers(ground, table, powers)
            self.assertEqual(divided(ground, table, member), ("in", powers))
            self.check_division(ground, table, member)
            for place in range(ground.places()):
                near = rows_joined(ground, member, place_row(ground, place))
                inside = divided(ground, table, place_row(ground, place))[0]
                self.assertEqual(self.check_division(ground, table, near), inside)

    def test_handing(self):
        for ground, table in drawn_tables("handing", 2):
            for row in made_rows(ground, GREAT, 2, "handing"):
                check_asking(self, divided, ground, table, row)

    def test_the_very_list_changed_in_place(self):
        ground = Ground(2, 2)
        table, row = [[2, 0, 0]], [4, 0, 0]
        self.assertEqual(divided(ground, table, row), ("in", (2,)))
        row[0] = 5
        self.assertEqual(divided(ground, table, row), ("out", 0, (5, 0, 0)))
        table[0][0] = 1
        self.assertEqual(divided(ground, table, row), ("in", (5,)))


def spoilt_tables(ground, table, source):
    """Lists of rows like the table, each with one thing otherwise."""
    for at, row in enumerate(table):
        place = source.randrange(ground.places())
        for number in (row[place] + 1, row[place] - 1, -row[place], row[place] * 2, row[place] + 60):
            yield table[:at] + [row[:place] + (number,) + row[place + 1:]] + table[at + 1:]
        head = head_of(row)[0]
        yield table[:at] + [row[:head] + (-row[head],) + row[head + 1:]] + table[at + 1:]
        yield table[:at] + table[at + 1:]
        yield table[:at] + [row_raised(ground, row, 2)] + table[at + 1:]
        yield table[:at] + [row_backed(ground, row)] + table[at + 1:]
        yield table[:at] + [row] + table[at:]
        yield table[:at] + [nothing(ground)] + table[at:]
        if at > 0:
            yield table[:at - 1] + [row, table[at - 1]] + table[at + 1:]
            yield table[:at - 1] + [rows_joined(ground, table[at - 1], row), row] + table[at + 1:]
    yield table + [nothing(ground)]


class IsTable(unittest.TestCase):
    def test_ordinary(self):
        ground = Ground(2, 2)
        self.assertIs(is_table(ground, []), True)
        self.assertIs(is_table(ground, [(1, 0, 0), (0, 1, 0), (0, 0, 1)]), True)
        self.assertIs(is_table(ground, [(1, 0, 0), (0, 1, 0)]), False)
        self.assertIs(is_table(ground, [(2, 0, 0), (0, 3, 0), (0, 0, 6)]), True)
        self.assertIs(is_table(ground, [(2, 0, 0), (0, 3, 0), (0, 0, 3)]), True)
        self.assertIs(is_table(ground, [(2, 0, 0), (0, 3, 0), (0, 0, 4)]), False)
        self.assertIs(is_table(ground, [(2, 3, 0), (0, 3, 0), (0, 0, 3)]), False)
        self.assertIs(is_table(ground, [(2, -1, 0), (0, 3, 0), (0, 0, 3)]), False)
        self.assertIs(is_table(ground, [(2, 2, 0), (0, 3, 0), (0, 0, 3)]), True)
        self.assertIs(is_table(ground, [(0, 0, 0)]), False)
        self.assertIs(is_table(ground, [(0, 0, -1)]), False)
        self.assertIs(is_table(ground, [(0, 0, 1), (1, 0, 0)]), False)
        self.assertIs(is_table(ground, [(1, 0, 0), (1, 0, 0)]), False)

    def test_told_tables(self):
        for ground, table in drawn_tables("told", 8):
            self.assertIs(check_asking(self, is_table, ground, table), True)

    def test_one_thing_otherwise(self):
        # A list is a table just where it is the table of the group that its own rows make.
        source = random.Random("otherwise")
        kinds = set()
        for ground, table in drawn_tables("otherwise", 4):
            for other in spoilt_tables(ground, table, source):
                told = is_table(ground, other)
                self.assertIs(told, table_of(ground, other) == other, (table, other))
                kinds.add(told)
        self.assertEqual(kinds, {True, False})

    def test_every_small_list(self):
        ground = Ground(2, 2)
        rows = list(itertools.product((-1, 0, 1, 2), (0, 1), (0, 1, 2)))
        for one in rows:
            self.assertIs(is_table(ground, [one]), table_of(ground, [one]) == [one])
            for other in rows:
                self.assertIs(is_table(ground, [one, other]), table_of(ground, [one, other]) == [one, other])

    def test_great_numbers(self):
        ground = Ground(2, 3)
        great = [place_row(ground, 0), tuple(GREAT * number for number in place_row(ground, 1))]
        table = table_of(ground, great)
        self.assertIs(is_table(ground, table), True)
        self.assertIs(is_table(ground, table[:-1]), False)
        self.assertIs(is_table(ground, great), False)


class HowSpread(unittest.TestCase):
    def test_ordinary(self):
        ground = Ground(2, 2)
        self.assertEqual(how_spread(ground, [(2, 0, 0), (0, 3, 0), (0, 0, 6)]), 36)
        self.assertEqual(how_spread(ground, [(1, 0, 0), (0, 1, 0), (0, 0, 1)]), 1)
        self.assertIsNone(how_spread(ground, [(2, 0, 0), (0, 0, 6)]))
        self.assertIsNone(how_spread(ground, []))

    def test_drawn(self):
        kinds = set()
        for ground, table in drawn_tables("spread", 10):
            heads = {}
            for row in table:
                place, number = head_of(row)
                heads[place] = number
            expected = None
            if len(heads) == ground.places():
                expected = 1
                for number in heads.values():
                    expected *= number
            told = check_asking(self, how_spread, ground, table)
            self.assertEqual(told, expected)
            kinds.add(told is None)
        self.assertEqual(kinds, {True, False})

    def test_into_so_many_parts(self):
        # Two rows are in one part where one backed and joined with the other is in the group.
        ground = Ground(2, 2)
        table = table_of(ground, [(2, 1, 0), (0, 2, 1)])
        parts = []
        for row in itertools.product(range(8), range(8), range(8)):
            if not any(divided(ground, table, rows_joined(ground, row_backed(ground, row), one))[0] == "in"
                       for one in parts):
                parts.append(row)
        self.assertEqual(len(parts), how_spread(ground, table))


def turners(ground):
    """The letters and their backs."""
    return [row_raised(ground, row, n) for row in letter_rows(ground) for n in (1, -1)]


def steadied(ground, rows):
    """The table of the least steady group that has the rows."""
    table = table_of(ground, rows)
    while True:
        turned = [row_turned(ground, row, other) for row in table for other in turners(ground)]
        greater = table_of(ground, table + turned)
        if greater == table:
            return table
        table = greater


class IsSteady(unittest.TestCase):
    def test_ordinary(self):
        ground = Ground(2, 2)
        self.assertIs(is_steady(ground, []), True)
        self.assertIs(is_steady(ground, [(1, 0, 0)]), False)
        self.assertIs(is_steady(ground, [(0, 0, 3)]), True)
        self.assertIs(is_steady(ground, [(2, 0, 0), (0, 0, 2)]), True)
        self.assertIs(is_steady(ground, [(2, 0, 0), (0, 0, 4)]), False)
        self.assertIs(is_steady(Ground(2, 1), [(5, 3)]), True)

    def test_by_letters_and_backs(self):
        kinds = set()
        for ground, table in drawn_tables("steady", 8):
            expected = all(
                divided(ground, table, row_turned(ground, row, other))[0] == "in"
                for row in table for other in turners(ground)
            )
            told = check_asking(self, is_steady, ground, table)
            self.assertIs(told, expected)
            kinds.add(told)
        self.assertEqual(kinds, {True, False})

    def test_steadied(self):
        source = random.Random("steadied")
        for ground in small_grounds():
            for time in range(3):
                table = steadied(ground, drawn_group(ground, source, 2))
                self.assertIs(is_steady(ground, table), True)
                for other in made_rows(ground, GREAT, 2, time):
                    for row in table:
                        self.assertEqual(divided(ground, table, row_turned(ground, row, other))[0], "in")

    def test_each_deepness_is_steady(self):
        for ground in small_grounds():
            for least in range(1, ground.depth() + 2):
                table = [
                    place_row(ground, place) for place in range(ground.places()) if ground.size_at(place) >= least
                ]
                self.assertIs(is_table(ground, table), True)
                self.assertIs(is_steady(ground, table), True)


if __name__ == "__main__":
    unittest.main()

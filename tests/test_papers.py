"""papers.py: points [2] and [18]."""

import random
import unittest

from bracketwords.doing import nothing, row_raised, rows_bracketed, rows_joined
from bracketwords.grounds import Ground
from bracketwords.papers import followed, paper_of
from bracketwords.tables import table_of
from tests.making import check_asking, drawn_group, is_number, is_row, made_rows, small_grounds

TWO = ("join", "bracket")


def line_row(ground, rows, reached, line):
    """The row of one line, by the rows of the lines ahead."""
    if line[0] == "given":
        return tuple(rows[line[1]])
    if line[0] == "table":
        return reached[line[1]]
    if line[0] == "raise":
        return row_raised(ground, reached[line[1]], line[2])
    done = rows_joined if line[0] == "join" else rows_bracketed
    return done(ground, reached[line[1]], reached[line[2]])


def drawn_paper(rows, source):
    """At most 40 lines of all kinds, each of lines ahead, with n below 100 in size."""
    many = source.randint(1, 40)
    lines = [("given", source.randrange(len(rows)))]
    while len(lines) < many:
        first, second = source.randrange(len(lines)), source.randrange(len(lines))
        lines.append(source.choice((
            ("given", source.randrange(len(rows))),
            ("join", first, second),
            ("bracket", first, second),
            ("raise", first, source.choice((source.randint(-99, 99), 0, 1, -1, 99, -99))),
        )))
    for time in range(min(source.randrange(3), 40 - many)):
        lines.append(("table", source.randrange(many)))
    return lines


class PaperOf(unittest.TestCase):
    def check_lines(self, rows, paper):
        """Lines of the told kinds alone, of lines ahead alone, the table's at the end."""
        self.assertIs(type(paper), list)
        for at, line in enumerate(paper):
            self.assertIs(type(line), tuple)
            self.assertTrue(all(is_number(number) for number in line[1:]), line)
            if line[0] == "given":
                self.assertEqual(len(line), 2)
                self.assertIn(line[1], range(len(rows)))
            elif line[0] in TWO:
                self.assertEqual(len(line), 3)
                self.assertIn(line[1], range(at))
                self.assertIn(line[2], range(at))
            elif line[0] == "raise":
                self.assertEqual(len(line), 3)
                self.assertIn(line[1], range(at))
            else:
                self.assertEqual(line[0], "table")
                self.assertEqual(len(line), 2)
                self.assertIn(line[1], range(at))
        kinds = [line[0] for line in paper]
        self.assertNotIn("table", kinds[:len(kinds) - kinds.count("table")])

    def check_paper(self, ground, rows):
        paper = paper_of(ground, rows)
        self.check_lines(rows, paper)
        told = followed(ground, rows, paper)
        reached = []
        for line in paper:
            reached.append(line_row(ground, rows, reached, line))
        self.assertEqual(told, reached)
        table = table_of(ground, rows)
        self.assertEqual([line[0] for line in paper].count("table"), len(table))
        self.assertEqual(told[len(told) - len(table):], table)

    def test_drawn(self):
        source = random.Random("papers")
        for ground in small_grounds():
            for time in range(10):
                self.check_paper(ground, drawn_group(ground, source))

    def test_few_rows(self):
        for ground in small_grounds():
            self.check_paper(ground, [])
            self.check_paper(ground, [nothing(ground)])
            row = made_rows(ground, 99, 1, "few")[0]
            self.check_paper(ground, [row])
            self.check_paper(ground, [row, row])
            self.check_paper(ground, [nothing(ground), row])

    def test_no_table_of_nothing(self):
        for ground in small_grounds():
            for rows in ([], [nothing(ground)], [nothing(ground)] * 2):
                self.assertNotIn("table", [line[0] for line in paper_of(ground, rows)])

    def test_the_asker_s_own(self):
        source = random.Random("own papers")
        for ground in small_grounds():
            for time in range(2):
                check_asking(self, paper_of, ground, drawn_group(ground, source))

    def test_the_very_list_changed_in_place(self):
        ground = Ground(2, 2)
        rows = [[4, 0, 0], [6, 0, 0]]
        self.check_paper(ground, rows)
        rows[0][0] = 5
        self.check_paper(ground, rows)
        self.assertEqual(followed(ground, rows, paper_of(ground, rows))[-1], (1, 0, 0))
        rows.pop()
        self.check_paper(ground, rows)


class Followed(unittest.TestCase):
    def test_ordinary(self):
        ground = Ground(2, 2)
        rows = [(1, 0, 0), (0, 1, 0)]
        paper = [
            ("given", 1), ("given", 0), ("join", 0, 1), ("bracket", 1, 0), ("raise", 2, -2), ("given", 1),
            ("table", 4), ("table", 3),
        ]
        self.assertEqual(followed(ground, rows, paper), [
            (0, 1, 0), (1, 0, 0), (1, 1, -1), (0, 0, 1), (-2, -2, -1), (0, 1, 0), (-2, -2, -1), (0, 0, 1),
        ])
        self.assertEqual(followed(ground, rows, []), [])
        self.assertEqual(followed(ground, [], []), [])

    def test_drawn_papers(self):
        source = random.Random("drawn")
        for ground in small_grounds():
            for time in range(12):
                rows = made_rows(ground, 99, source.randint(1, 4), time)
                paper = drawn_paper(rows, source)
                reached = []
                for line in paper:
                    reached.append(line_row(ground, rows, reached, line))
                told = followed(ground, rows, paper)
                self.assertIs(type(told), list)
                self.assertTrue(all(is_row(ground, row) for row in told))
                self.assertEqual(told, reached)

    def test_each_kind_alone(self):
        for ground in small_grounds():
            one, other = made_rows(ground, 99, 2, "alone")
            given = [("given", 0), ("given", 1)]
            for line, row in (
                (("join", 0, 1), rows_joined(ground, one, other)),
                (("join", 1, 0), rows_joined(ground, other, one)),
                (("join", 1, 1), rows_joined(ground, other, other)),
                (("bracket", 0, 1), rows_bracketed(ground, one, other)),
                (("bracket", 1, 0), rows_bracketed(ground, other, one)),
                (("raise", 0, 99), row_raised(ground, one, 99)),
                (("raise", 1, -99), row_raised(ground, other, -99)),
                (("raise", 1, 0), nothing(ground)),
                (("given", 1), other),
                (("table", 1), other),
            ):
                self.assertEqual(followed(ground, [one, other], given + [line]), [one, other, row])

    def test_the_asker_s_own(self):
        source = random.Random("own followed")
        for ground in small_grounds():
            rows = made_rows(ground, 99, 3, "own followed")
            check_asking(self, followed, ground, rows, drawn_paper(rows, source))
            check_asking(self, followed, ground, rows, paper_of(ground, rows))

    def test_the_very_list_changed_in_place(self):
        ground = Ground(2, 2)
        rows, paper = [[1, 0, 0], [0, 1, 0]], [["given", 0], ["raise", 0, 2]]
        self.assertEqual(followed(ground, rows, paper), [(1, 0, 0), (2, 0, 0)])
        rows[0][0] = 3
        self.assertEqual(followed(ground, rows, paper), [(3, 0, 0), (6, 0, 0)])
        paper[0][1] = 1
        paper.append(["table", 1])
        self.assertEqual(followed(ground, rows, paper), [(0, 1, 0), (0, 2, 0), (0, 2, 0)])
        self.assertEqual(rows, [[3, 0, 0], [0, 1, 0]])


if __name__ == "__main__":
    unittest.main()

"""desk.py: points [2] and [26]."""

import random
import re
import unittest

from bracketwords.desk import run
from bracketwords.doing import rows_joined
from bracketwords.errors import BadRow, BracketError, NoName, TooGreat
from bracketwords.going import go_together
from bracketwords.grounds import Ground
from bracketwords.roots import root
from bracketwords.rows import sums_of
from bracketwords.texts import row_text
from bracketwords.trees import read_tree, tree_text
from tests.grammar import Model, drawn_items, is_text, spoilt
from tests.making import PAIRS, check_own_list

GREAT = 10 ** 200
NAME = "([a-z]{2,8})"
WRITTEN = [re.compile(row) for row in (
    f"drop {NAME}", f"row {NAME}", f"text {NAME}", f"needs {NAME}", f"sum {NAME} ([a-d]{{1,5}})",
    f"same {NAME} {NAME}", f"join {NAME} {NAME}", f"root {NAME} ([1-9][0-9]{{0,8}})", f"goes {NAME} {NAME}",
)]
SOME = ["xx", "yy", "zz", "word", "abcdefgh"]


def is_ground(row):
    """Whether it is the row of a ground that there is."""
    found = re.fullmatch("ground ([0-9]) ([0-9])", row)
    return found is not None and (int(found[1]), int(found[2])) in PAIRS


def is_written(row):
    """Whether it is a row behind the ground's, written by the rules."""
    found = re.fullmatch(f"let {NAME} = (.*)", row)
    if found is not None:
        return is_text(found[2])
    return any(form.fullmatch(row) for form in WRITTEN)


def first_bad(text):
    """The number of the first row that is not written by the rules; None where there is none."""
    rows, ground = text.split("\n"), False
    for line, row in enumerate(rows):
        if row and not (is_written(row) if ground else is_ground(row)):
            return line
        ground = ground or bool(row)
    return None if ground else len(rows)


class Refused(Exception):
    """What the walked desk is refused with."""


class WalkedDesk:
    """Point [26] walked through, with a book told in another way."""

    def __init__(self, letters, depth):
        self.ground = Ground(letters, depth)
        self.model = Model(self.ground)

    def answers(self, rows):
        told = []
        for row in rows:
            words = row.split(" ", 3 if row.startswith("let ") else -1)
            try:
                told.append(getattr(self, "answer_" + words[0])(*words[1:]))
            except Refused as refusal:
                told.append(f"refused {refusal}")
        return told

    def there(self, name):
        if name not in self.model.texts:
            raise Refused("NoName")

    def row_of(self, name):
        row = self.model.row(name)
        if row[0] in (NoName, TooGreat):
            raise Refused(row[0].__name__)
        return row

    def small(self, numbers):
        if max(abs(number) for number in numbers) >= GREAT:
            raise Refused("TooGreat")
        return numbers

    def answer_let(self, name, equals, text):
        if any(sign in "abcd"[self.ground.letters():] for sign in re.findall(r"\b[a-d]\b", text)):
            raise Refused("NoLetter")
        kept = self.model.texts.get(name)
        self.model.texts[name] = text
        if self.model.ring(name) is not None:
            self.model.texts[name] = kept
            if kept is None:
                del self.model.texts[name]
            raise Refused("Ring")
        return "done"

    def answer_drop(self, name):
        self.there(name)
        del self.model.texts[name]
        return "done"

    def answer_row(self, name):
        return row_text(self.ground, self.row_of(name))

    def answer_text(self, name):
        self.there(name)
        return tree_text(read_tree(self.model.texts[name]))

    def answer_needs(self, name):
        self.there(name)
        return " ".join(self.model.all_needs(name)) or "-"

    def answer_sum(self, name, word):
        row = self.row_of(name)
        letters = tuple("abcd".index(sign) + 1 for sign in word)
        if letters not in self.ground.words():
            raise Refused("NoPlace")
        return str(self.small([dict(zip(self.ground.words(), sums_of(self.ground, row)))[letters]])[0])

    def answer_same(self, one, other):
        first, second = sums_of(self.ground, self.row_of(one)), sums_of(self.ground, self.row_of(other))
        for word, number, more in zip(self.ground.words(), first, second):
            if number != more:
                return "unlike " + "".join("abcd"[letter - 1] for letter in word)
        return "same"

    def answer_join(self, one, other):
        return row_text(self.ground, self.small(rows_joined(self.ground, self.row_of(one), self.row_of(other))))

    def answer_root(self, name, n):
        told, what = root(self.ground, self.row_of(name), int(n))
        if told == "none":
            return "none " + row_text(self.ground, [int(at == what) for at in range(self.ground.places())])
        return "root " + row_text(self.ground, self.small(what))

    def answer_goes(self, one, other):
        return "yes" if go_together(self.ground, self.row_of(one), self.row_of(other)) else "no"


def drawn_row(source, letters):
    """A row behind the ground's."""
    kind = source.choice(["let"] * 9 + "drop row row text needs sum sum same join root goes".split())
    one, other = source.choice(SOME), source.choice(SOME)
    if kind == "let" and source.randrange(12) == 0:
        # A number of 190 figures, with which a power or a sum is soon too great.
        return f"let {one} = " + "(" * 20 + source.choice("abcd"[:letters]) + "^999999999)" * 20 + "^999999999"
    if kind == "let":
        power = source.choice((2, 4, 12, 999999999))
        return f"let {one} = " + drawn_items(source, source.randrange(3), letters, SOME, 2, power)[0]
    if kind in ("drop", "row", "text", "needs"):
        return f"{kind} {one}"
    if kind == "sum":
        return f"sum {one} " + "".join(source.choice("abcd"[:letters]) for time in range(source.randint(1, 5)))
    if kind == "root":
        return f"root {one} {source.choice((1, 2, 3, 4, 999999999))}"
    return f"{kind} {one} {other}"


def drawn_rows(source, letters, many):
    rows = [drawn_row(source, letters) for time in range(many)]
    # Now and then a letter more than the ground has.
    return [row if source.randrange(12) else drawn_row(source, 4) for row in rows]


def with_empty_rows(rows, source):
    """The rows' text, with empty rows ahead, among and behind."""
    told = []
    for row in rows:
        told += [""] * source.choice((0, 0, 1, 2)) + [row]
    return "\n".join(told + [""] * source.choice((0, 1, 2)))


class Answers(unittest.TestCase):
    def check_answers(self, rows, answers):
        told = check_own_list(self, run, "\n".join(rows))
        self.assertTrue(all(type(answer) is str for answer in told))
        self.assertEqual(told, answers)

    def test_every_kind_of_row(self):
        self.check_answers(
            [
                "ground 2 3", "let xx = a b^2", "let yy = [xx, b]^-3 xx^2", "row xx", "row yy", "text yy", "needs yy",
                "needs xx", "sum xx abb", "sum xx ab", "sum xx ba", "same xx xx", "same xx yy", "join xx xx",
                "root yy 2", "root xx 1", "root xx 2", "goes xx yy", "goes xx xx", "drop xx", "row yy", "row xx",
            ],
            [
                "done", "done", "a b^2", "a^2 b^4 [a, b]^-5 [a, [a, b]]^6 [[a, b], b]^-23", "[xx, b]^-3 xx^2", "xx",
                "-", "1", "2", "0", "same", "unlike a", "a^2 b^4 [a, b]^-2 [[a, b], b]^-5", "none [a, b]",
                "root a b^2", "none a", "no", "yes", "done", "refused NoName", "refused NoName",
            ],
        )

    def test_nothing(self):
        self.check_answers(
            [
                "ground 1 1", "let xx = 1", "row xx", "text xx", "needs xx", "sum xx a", "same xx xx", "join xx xx",
                "root xx 7", "goes xx xx",
            ],
            ["done", "1", "1", "-", "0", "same", "1", "root 1", "yes"],
        )

    def test_let_and_drop(self):
        self.check_answers(
            [
                "ground 2 2", "let xx = c", "let xx = yy", "let yy = d xx", "let yy = xx", "let yy = yy c",
                "let yy = yy", "needs xx", "row xx", "drop yy", "let yy = b", "row xx", "drop xx", "drop xx",
                "let xx = (a b)^-1", "text xx", "row xx", "let xx = b", "row xx",
            ],
            [
                "refused NoLetter", "done", "refused NoLetter", "refused Ring", "refused NoLetter", "refused Ring",
                "yy", "refused NoName", "refused NoName", "done", "b", "done", "refused NoName", "done", "(a b)^-1",
                "a^-1 b^-1 [a, b]^-1", "done", "b",
            ],
        )

    def test_unlike_words(self):
        rows, answers = ["ground 3 2", "let xx = a b c"], ["done"]
        for text, word in (
            ("b c", "a"), ("a c", "b"), ("a b", "c"), ("b a c", "ab"), ("c a b", "ac"), ("a c b", "bc"), ("a b c", None)
        ):
            rows += [f"let yy = {text}", "same xx yy", "same yy xx"]
            answers += ["done"] + ["same" if word is None else f"unlike {word}"] * 2
        self.check_answers(rows, answers)

    def test_sums_of_other_words(self):
        self.check_answers(
            [
                "ground 2 2", "let xx = a^3 b", "sum xx a", "sum xx b", "sum xx aa", "sum xx ab", "sum xx ba",
                "sum xx bb", "sum xx c", "sum xx ad", "sum xx aab", "sum xx ddddd", "sum zz c", "sum zz a",
            ],
            ["done", "3", "1", "3", "3", "0", "0"] + ["refused NoPlace"] * 4 + ["refused NoName"] * 2,
        )

    def great_rows(self, letter="a"):
        """Rows by which the name p, q and r of a letter are 10 ** 199, 10 ** 200 - 1, and too great."""
        rows, last = [], letter
        for at in range(24):
            name = letter + "stuv"[at // 6] + "uvwxyz"[at % 6]
            rows.append(f"let {name} = {last}^100000000")
            last = name
        rows.append(f"let {letter}p = {last}^10000000")
        rows.append(f"let {letter}q = {letter}p^9 {letter}^-1 {letter}p")
        rows.append(f"let {letter}r = {letter}p^10")
        return rows

    def test_too_great(self):
        rows = ["ground 1 1"] + self.great_rows()
        asked = [
            ("row ap", f"a^{10 ** 199}"), ("row aq", f"a^{GREAT - 1}"), ("row ar", "refused TooGreat"),
            ("text ar", "ap^10"), ("sum aq a", str(GREAT - 1)), ("sum ar a", "refused TooGreat"),
            ("join aq ap", "refused TooGreat"), ("let ab = a^-1", "done"), ("join aq ab", f"a^{GREAT - 2}"),
            ("let ac = a", "done"), ("join aq ac", "refused TooGreat"), ("join ac aq", "refused TooGreat"),
            ("same aq ar", "refused TooGreat"), ("same ar aq", "refused TooGreat"), ("goes ar ap", "refused TooGreat"),
            ("root ar 2", "refused TooGreat"), ("root aq 3", f"root a^{(GREAT - 1) // 3}"), ("root aq 2", "none a"),
            ("same ar zz", "refused TooGreat"), ("same zz ar", "refused NoName"), ("join ar zz", "refused TooGreat"),
            ("join zz ar", "refused NoName"), ("goes ar zz", "refused TooGreat"), ("goes zz ar", "refused NoName"),
            ("sum ar aaaaa", "refused TooGreat"), ("sum ap aaaaa", "refused NoPlace"),
            ("sum zz aaaaa", "refused NoName"), ("let ad = ar zz", "done"), ("row ad", "refused NoName"),
            ("root ad 1", "refused NoName"), ("same ad ad", "refused NoName"), ("same ap zz", "refused NoName"),
        ]
        answers = ["done"] * (len(rows) - 1) + [answer for row, answer in asked]
        self.check_answers(rows + [row for row, answer in asked], answers)

    def test_too_great_sums_and_roots(self):
        # Sums, joined rows and roots may be too great of rows that are not.
        rows = ["ground 2 2", ""] + self.great_rows("a") + [""] + ["let bb = b^-1"]
        asked = [
            ("let xx = ap b^9", "done"), ("sum xx ab", str(9 * 10 ** 199)), ("let xx = ap b^10", "done"),
            ("row xx", f"a^{10 ** 199} b^10"), ("sum xx ab", "refused TooGreat"), ("sum xx ba", "0"),
            ("sum xx aa", "refused TooGreat"), ("sum xx c", "refused NoPlace"), ("sum xx aab", "refused NoPlace"),
            ("let yy = b^10", "done"), ("join ap yy", f"a^{10 ** 199} b^10"), ("join yy ap", "refused TooGreat"),
            ("let yy = b^9", "done"), ("join yy ap", f"a^{10 ** 199} b^9 [a, b]^-{9 * 10 ** 199}"),
            ("let zz = ap^4 b^20000000", "done"), ("root zz 4", "refused TooGreat"), ("root zz 3", "none a"),
            ("root zz 1", f"root a^{4 * 10 ** 199} b^20000000"), ("goes xx yy", "no"), ("same zz xx", "unlike a"), ("goes zz zz", "yes"),
        ]
        answers = ["done"] * len([row for row in rows[1:] if row]) + [answer for row, answer in asked]
        self.check_answers(rows + [row for row, answer in asked], answers)

    def test_beside_the_walked_desk(self):
        kinds = set()
        for seed, (letters, depth) in enumerate(PAIRS[:13] * 3):
            source = random.Random(seed)
            rows = drawn_rows(source, letters, 60)
            text = with_empty_rows([f"ground {letters} {depth}"] + rows, source)
            told = run(text)
            self.assertEqual(told, WalkedDesk(letters, depth).answers(rows), text)
            kinds.update(answer for answer in told if answer.startswith("refused"))
        self.assertEqual(kinds, {
            "refused NoName", "refused NoLetter", "refused Ring", "refused NoPlace", "refused TooGreat",
        })

    def test_a_hundred_rows_of_three_hundred_signs(self):
        long = "let xx = " + " ".join(["a", "b"] * 72) + " b^2"
        rows = ["ground 2 2"] + [long] * 99
        self.assertLessEqual(len(long), 300)
        self.assertEqual(run("\n".join(rows)), ["done"] * 99)
        self.assertEqual(run("\n".join(rows[:99] + ["row xx"]))[-1], "a^72 b^74 [a, b]^-2556")

    def test_thirty_names(self):
        names = [one + other for one in "abcdef" for other in "vwxyz"]
        rows = ["ground 1 1"] + [
            f"let {name} = a" if at == 0 else f"let {name} = {names[at - 1]} a" for at, name in enumerate(names)
        ]
        told = run("\n".join(rows + [f"row {names[-1]}", f"needs {names[-1]}", f"let {names[0]} = {names[-1]}"]))
        self.assertEqual(told, ["done"] * 30 + ["a^30", " ".join(sorted(names[:-1])), "refused Ring"])

    def test_each_text_is_a_desk_of_its_own(self):
        self.assertEqual(run("ground 2 2\nlet xx = a"), ["done"])
        self.assertEqual(run("ground 2 2\nrow xx"), ["refused NoName"])
        self.assertEqual(run("ground 1 1\nlet xx = b"), ["refused NoLetter"])
        self.assertEqual(run("ground 2 2\nlet xx = b\nrow xx"), ["done", "b"])


class BadRows(unittest.TestCase):
    def check_bad(self, text, line):
        with self.assertRaises(BracketError) as caught:
            run(text)
        self.assertIs(type(caught.exception), BadRow, text)
        self.assertIs(type(caught.exception.line), int)
        self.assertEqual(caught.exception.line, line, text)

    def test_empty_rows_alone(self):
        self.check_bad("", 1)
        self.check_bad("\n", 2)
        self.check_bad("\n\n", 3)
        self.check_bad("\n" * 99, 100)

    def test_the_ground_alone(self):
        for text in ("ground 2 2", "\nground 1 5\n", "\n\n\nground 4 3\n\n"):
            self.assertEqual(check_own_list(self, run, text), [])

    def test_every_pair(self):
        for letters in range(10):
            for depth in range(10):
                text = f"ground {letters} {depth}\nlet xx = a\nrow xx"
                if (letters, depth) in PAIRS:
                    self.assertEqual(run(text), ["done", "a"])
                else:
                    self.check_bad(text, 0)
                    self.check_bad("\n\n" + text, 2)

    def test_the_ground_s_row(self):
        for row in (
            "ground", "ground 2", "ground 2 2 ", " ground 2 2", "ground  2 2", "ground 2  2", "ground 22", "ground 2 2 2",
            "ground 02 2", "ground 2 02", "Ground 2 2", "ground a b", "ground -1 2", "ground 12 2", "ground2 2", "2 2",
            "ground 2,2", "ground +2 2", " ", "row xx", "let xx = a",
        ):
            self.check_bad(row, 0)
            self.check_bad("\n" + row + "\nrow xx", 1)

    def test_rows_behind_it(self):
        for row in (
            "ground 2 2", " ", "let", "let ", "let xx", "let xx =", "let xx = ", "let xx a", "let xx=a", "let xx  = a",
            "let xx =  a", "let  xx = a", "let xx = a ", "let xx = [a", "let xx = a^00", "let x = a", "let xxxxxxxxx = a",
            "let xx = a = b", "let = a", "let xX = a", "let xx = e", "let xx = " + "(" * 21 + "a" + ")" * 21,
            "let xx = a^1234567890", "let xx = a^-0", "drop", "drop x", "drop xx yy", "drop xx ", "row", "row a",
            "row xx xx", "row  xx", " row xx", "row xx,", "rows xx", "text", "text a b", "needs", "needs xx yy", "sum xx",
            "sum xx e", "sum xx aaaaaa", "sum xx a b", "sum a a", "sum xx 1", "sum xx A", "sum xx ", "sum  a",
            "same xx", "same xx yy zz", "same x yy", "same xx y", "join xx", "join xx yy zz", "join xx ", "root xx",
            "root xx 0", "root xx 01", "root xx -1", "root xx 1234567890", "root xx a", "root xx 1 2", "root xx +1",
            "root xx ", "root 2 xx", "goes xx", "goes xx yy zz", "goes xx 1", "none xx", "row xx\t", "Row xx", "letxx = a",
            "done", "-", "xx", "1", "refused NoName", "answer xx", "name xx",
        ):
            self.assertFalse(is_written(row), row)
            self.check_bad("ground 2 2\n" + row, 1)
            self.check_bad("ground 2 2\nrow xx\n\nlet xx = c\n" + row + "\nrow xx", 4)

    def test_rows_that_are_written_so(self):
        for row in (
            "let xx = a", "let abcdefgh = [a, b]^999999999 1", "let xx = " + "(" * 20 + "a" + ")" * 20, "let let = a",
            "drop drop", "row ground", "text text", "needs needs", "sum sum a", "sum xx ddddd", "same same same",
            "join join join", "root root 999999999", "root xx 1", "goes goes goes", "let xx = d", "let ground = 1",
        ):
            self.assertTrue(is_written(row), row)
            self.assertEqual(len(run("ground 2 2\n" + row)), 1)

    def test_ahead_of_all(self):
        # A bad row is told, though rows ahead of it are refused, and the first one of two.
        self.check_bad("ground 2 2\nrow xx\nlet xx = c\nrow", 3)
        self.check_bad("ground 2 2\nrow\nlet xx = c\nrow", 1)
        self.check_bad("ground 9 9\nrow", 0)
        self.check_bad("row xx\nground 2 2", 0)

    def test_spoilt_at_any_place(self):
        source = random.Random("spoilt rows")
        bad = good = 0
        for time in range(150):
            letters, depth = source.choice(PAIRS[:10])
            rows = [f"ground {letters} {depth}"] + drawn_rows(source, letters, 3)
            at = source.randrange(len(rows))
            for row in spoilt(rows[at], source, 3, "abez1029^-[](), =\n~AB"):
                text = with_empty_rows(rows[:at] + [row] + rows[at + 1:], source)
                line = first_bad(text)
                if line is None:
                    asked = [one for one in text.split("\n") if one]
                    first = asked[0].split(" ")
                    expected = WalkedDesk(int(first[1]), int(first[2])).answers(asked[1:])
                    self.assertEqual(run(text), expected)
                    good += 1
                else:
                    self.check_bad(text, line)
                    bad += 1
        self.assertGreater(bad, 1000)
        self.assertGreater(good, 100)


if __name__ == "__main__":
    unittest.main()

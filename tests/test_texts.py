"""texts.py: points [2] and [23]."""

import random
import unittest

from bracketwords.doing import nothing, place_row, row_raised, rows_bracketed, rows_joined
from bracketwords.errors import BracketError, NoLetter, NoName, TooGreat
from bracketwords.grounds import Ground
from bracketwords.rows import row_of
from bracketwords.texts import row_in, row_text
from bracketwords.trees import read_tree
from bracketwords.words import bracketed, joined, repeated
from tests.grammar import NAMES, drawn_items, is_text
from tests.making import as_lists, check_handing, deep_row, each_ground, is_row, made_rows, made_words

GREAT = 10 ** 200


def written_out(tree, words):
    """The word of the tree, with the words of the names in it; None where it is too long to be handled."""
    kind = tree[0]
    if kind == "letter":
        return (tree[1],)
    if kind == "name":
        return words[tree[1]]
    if kind == "none":
        return ()
    if kind == "items":
        parts = [written_out(part, words) for part in tree[1]]
        return None if None in parts else sum(parts, ())
    if kind == "power":
        word = written_out(tree[1], words)
        return None if word is None or len(word) * abs(tree[2]) > 2000 else repeated(word, tree[2])
    one, other = written_out(tree[1], words), written_out(tree[2], words)
    return None if one is None or other is None or len(one + other) > 1000 else bracketed(one, other)


def walked_row(ground, tree, named):
    """The tree's row as point [23] tells it, with TooGreat; letters and names are there."""
    kind = tree[0]
    if kind == "items":
        row = nothing(ground)
        for part in tree[1]:
            row = small(rows_joined(ground, row, walked_row(ground, part, named)))
        return row
    if kind == "power":
        return small(row_raised(ground, walked_row(ground, tree[1], named), tree[2]))
    if kind == "bracket":
        parts = [walked_row(ground, part, named) for part in tree[1:]]
        return small(rows_bracketed(ground, *parts))
    if kind == "letter":
        return place_row(ground, tree[1] - 1)
    return small(tuple(named[tree[1]])) if kind == "name" else nothing(ground)


def small(row):
    if max(abs(number) for number in row) >= GREAT:
        raise TooGreat("too great")
    return row


def bracket_sign(ground, place):
    """The text of a place's bracket, by its turnword's halves."""
    parts = ground.parts_at(place)
    if parts is None:
        return "abcd"[place]
    return "[" + bracket_sign(ground, parts[0]) + ", " + bracket_sign(ground, parts[1]) + "]"


class RowIn(unittest.TestCase):
    def check_refused(self, refusal, field, ground, text, named):
        kept = dict(named)
        with self.assertRaises(BracketError) as caught:
            row_in(ground, read_tree(text), named)
        self.assertIs(type(caught.exception), refusal, text)
        if refusal is NoLetter:
            self.assertEqual(caught.exception.letter, field)
        if refusal is NoName:
            self.assertEqual(caught.exception.name, field)
        self.assertEqual(named, kept)

    def test_ordinary(self):
        ground = Ground(2, 2)
        named = {"ab": (1, 2, 3), "cd": [0, 0, 5]}
        for text, row in (
            ("a", (1, 0, 0)), ("b", (0, 1, 0)), ("1", (0, 0, 0)), ("b a", (1, 1, -1)), ("[a, b]^7", (0, 0, 7)),
            ("ab", (1, 2, 3)), ("cd ab", (1, 2, 8)), ("cd", (0, 0, 5)), ("ab^0", (0, 0, 0)), ("(a b)^2", (2, 2, -1)),
            ("a^999999999 b^-999999999", (999999999, -999999999, 0)), ("[a^-3, b^4]", (0, 0, -12)),
        ):
            told = row_in(ground, read_tree(text), named)
            self.assertTrue(is_row(ground, told))
            self.assertEqual(told, row)
        self.assertEqual(named, {"ab": (1, 2, 3), "cd": [0, 0, 5]})

    def test_beside_the_written_out_word(self):
        source = random.Random("written out")
        for ground in each_ground():
            words = dict(zip(NAMES, made_words(ground.letters(), [0, 1, 2, 3, 4, 5, 6, 7, 8, 9], "named")))
            named = {name: row_of(ground, word) for name, word in words.items()}
            tried = 0
            while tried < 25:
                text, tree = drawn_items(source, 3, ground.letters(), NAMES, 3, 4)
                word = written_out(tree, words)
                if word is not None and len(word) < 3000:
                    tried += 1
                    self.assertEqual(row_in(ground, tree, named), row_of(ground, word), text)

    def test_great_powers(self):
        source = random.Random("powers")
        refused = 0
        for ground in each_ground():
            named = dict(zip(NAMES, made_rows(ground, 10 ** 60, len(NAMES), "great")))
            for time in range(25):
                text, tree = drawn_items(source, 3, ground.letters(), NAMES, 3)
                try:
                    expected = walked_row(ground, tree, named)
                except TooGreat:
                    self.check_refused(TooGreat, None, ground, text, named)
                    refused += 1
                else:
                    self.assertEqual(row_in(ground, tree, named), expected, text)
        self.assertGreater(refused, 5)

    def test_first_letter(self):
        for letters, text, letter in (
            (1, "b", 2), (1, "a d c b", 4), (2, "c", 3), (2, "a b [d, c]", 4), (3, "d", 4), (3, "[a, (b d^0)] d", 4),
            (2, "xy c ab d", 3), (1, "[xy, c]^0 b", 3), (1, "(a b)^0", 2),
        ):
            self.check_refused(NoLetter, letter, Ground(letters, 1), text, {})
        for text in ("a b c d", "[a, d]"):
            self.assertEqual(len(row_in(Ground(4, 2), read_tree(text), {})), 10)

    def test_first_name(self):
        ground = Ground(2, 2)
        named = {"ab": (1, 0, 0), "great": (GREAT, 0, 0)}
        for text, name in (
            ("zz", "zz"), ("ab zz yy", "zz"), ("[ab, yy] zz", "yy"), ("yy^0", "yy"), ("(a (b zz))^0 yy", "zz"),
            ("great zz", "zz"), ("a^999999999 abc", "abc"),
        ):
            self.check_refused(NoName, name, ground, text, named)
        self.check_refused(NoLetter, 3, ground, "zz great c", named)
        self.check_refused(NoName, "zz", ground, "great^2 zz", named)

    def test_too_great_just_there(self):
        for ground in each_ground():
            for place in range(ground.places()):
                for sign in (1, -1):
                    most = tuple(sign * (GREAT - 1) * number for number in place_row(ground, place))
                    more = tuple(sign * GREAT * number for number in place_row(ground, place))
                    tenth = tuple(sign * (GREAT // 10) * number for number in place_row(ground, place))
                    named = {"most": most, "more": more, "tenth": tenth, "one": place_row(ground, place)}
                    back = "one^-1" if sign > 0 else "one"
                    step = "one" if sign > 0 else "one^-1"
                    self.assertEqual(row_in(ground, read_tree("most"), named), most)
                    self.assertEqual(row_in(ground, read_tree(f"most {back} {step}"), named), most)
                    for text in (
                        "more", "more^0", "(more)", "[more, more]", "more^-1", "1 more", f"more {back}", f"most {step}",
                        f"most {step} {back}", f"{step} most {back}", f"(most {step}) {back}", f"(most {step})^0",
                        "tenth^10", "tenth^-10", "(tenth^10)^0", "tenth^5 tenth^5", f"[most {step}, one]",
                    ):
                        self.check_refused(TooGreat, None, ground, text, named)
                    for text in ("tenth^9", "tenth^-9", f"tenth^9 ({step})^999999999", f"most {back} {step}"):
                        row_in(ground, read_tree(text), named)

    def test_rows_between_do_not_count(self):
        # What is joined on the way to the bracket or the power is too great, what comes of it is not.
        for ground in each_ground():
            row = tuple((GREAT - 1) * number for number in place_row(ground, 0))
            self.assertEqual(row_in(ground, read_tree("[xx, xx]"), {"xx": row}), nothing(ground))
            self.assertEqual(row_in(ground, read_tree("[xx, xx^-1] a"), {"xx": row}), place_row(ground, 0))
            self.assertEqual(row_in(ground, read_tree("xx xx^-1 xx"), {"xx": row}), row)
            self.assertEqual(row_in(ground, read_tree("xx^0"), {"xx": row}), nothing(ground))
        ground = Ground(2, 2)
        named = {"xx": (10 ** 150, 0, 0), "yy": (0, 10 ** 150, 0), "zz": (0, 10 ** 49, 0)}
        self.assertEqual(row_in(ground, read_tree("[xx, zz]"), named), (0, 0, 10 ** 199))
        self.assertEqual(row_in(ground, read_tree("xx yy"), named), (10 ** 150, 10 ** 150, 0))
        self.check_refused(TooGreat, None, ground, "yy xx", named)
        self.check_refused(TooGreat, None, ground, "[xx, yy]", named)
        self.check_refused(TooGreat, None, ground, "(xx yy)^2", named)
        self.check_refused(TooGreat, None, ground, "[xx, yy] [yy, xx]", named)

    def test_beginnings_of_items(self):
        ground = Ground(1, 1)
        named = {"xx": (GREAT // 2,), "yy": (GREAT // 2 - 1,)}
        self.assertEqual(row_in(ground, read_tree("xx yy"), named), (GREAT - 1,))
        self.check_refused(TooGreat, None, ground, "xx yy a", named)
        self.check_refused(TooGreat, None, ground, "xx yy a a^-1 xx^-1", named)
        self.check_refused(TooGreat, None, ground, "xx^-1 yy^-1 a^-1 a", named)
        self.assertEqual(row_in(ground, read_tree("a xx^-1 yy"), named), (0,))
        # An end, and items in round brackets, count by themselves.
        self.assertEqual(row_in(ground, read_tree("xx^-1 xx xx a^-1"), named), (GREAT // 2 - 1,))
        self.check_refused(TooGreat, None, ground, "xx^-1 (xx xx)", named)

    def test_handing(self):
        ground = Ground(2, 3)
        tree = read_tree("[xx, b] (yy^3 a)")
        rows = made_rows(ground, 10 ** 60, 2, "handing")
        named = {"xx": list(rows[0]), "yy": rows[1], "more": [5]}
        kept = {name: list(row) for name, row in named.items()}
        first = row_in(ground, tree, named)
        self.assertEqual({name: list(row) for name, row in named.items()}, kept)
        self.assertEqual(row_in(ground, tree, {"xx": rows[0], "yy": rows[1]}), first)
        self.assertEqual(row_in(ground, as_lists(tree), named), first)
        named["xx"][0] += 1
        self.assertNotEqual(row_in(ground, tree, named), first)
        named["xx"][0] -= 1
        self.assertEqual(row_in(ground, tree, named), first)

    def test_told_again(self):
        # A told row stands for a name, whatever its size.
        ground = Ground(2, 4)
        row = row_raised(ground, deep_row(ground, 10 ** 60, 1, "again"), 10 ** 60)
        self.check_refused(TooGreat, None, ground, "a xx", {"xx": row})
        self.assertEqual(row_in(ground, read_tree("a"), {"xx": row}), place_row(ground, 0))


class RowText(unittest.TestCase):
    def test_ordinary(self):
        ground = Ground(2, 3)
        for row, text in (
            ((0, 0, 0, 0, 0), "1"), ((1, 0, 0, 0, 0), "a"), ((0, -1, 0, 0, 0), "b^-1"),
            ((2, 1, -3, 1, 10), "a^2 b [a, b]^-3 [a, [a, b]] [[a, b], b]^10"), ((0, 0, 0, 1, 0), "[a, [a, b]]"),
        ):
            told = check_handing(self, row_text, ground, row)
            self.assertIs(type(told), str)
            self.assertEqual(told, text)

    def test_each_place(self):
        for ground in each_ground():
            self.assertEqual(row_text(ground, nothing(ground)), "1")
            for place in range(ground.places()):
                for n in (1, -1, 2, -2, 10, GREAT - 1, 1 - GREAT):
                    row = tuple(n * number for number in place_row(ground, place))
                    expected = bracket_sign(ground, place) + ("" if n == 1 else f"^{n}")
                    self.assertEqual(row_text(ground, row), expected)

    def test_drawn(self):
        for ground in each_ground():
            for size in (1, 5, GREAT - 1):
                for row in made_rows(ground, size, 3, size):
                    items = [
                        bracket_sign(ground, place) + ("" if n == 1 else f"^{n}")
                        for place, n in enumerate(row) if n != 0
                    ]
                    self.assertEqual(check_handing(self, row_text, ground, row), " ".join(items) or "1")

    def test_its_tree_has_the_row_again(self):
        for ground in each_ground():
            for row in made_rows(ground, 999999999, 4, "again") + [nothing(ground)]:
                text = row_text(ground, row)
                self.assertTrue(is_text(text))
                self.assertEqual(row_in(ground, read_tree(text), {}), row)


class Deep(unittest.TestCase):
    def test_deep_brackets_count_as_nothing(self):
        for ground in each_ground():
            last = "abcd"[ground.letters() - 1]
            deep = "a"
            for time in range(ground.depth()):
                deep = f"[{deep}, {last} xx]"
            named = {"xx": made_rows(ground, 99, 1, "deep")[0]}
            self.assertEqual(row_in(ground, read_tree(deep), named), nothing(ground))
            for text in ("a {} xx^-3", "[a xx {}, xx^2]", "({} a)^5 {}"):
                with_deep, without = text.replace("{}", deep), text.replace("{}", "1")
                self.assertEqual(
                    row_in(ground, read_tree(with_deep), named), row_in(ground, read_tree(without), named)
                )

    def test_joined_texts(self):
        for ground in each_ground():
            one, other = made_words(ground.letters(), [9, 8], "texts")
            texts = [" ".join("abcd"[abs(step) - 1] + ("^-1" if step < 0 else "") for step in word)
                     for word in (one, other)]
            told = row_in(ground, read_tree(f"{texts[0]} ({texts[1]})"), {})
            self.assertEqual(told, row_of(ground, joined(one, other)))


if __name__ == "__main__":
    unittest.main()

"""trees.py: points [2] and [22], and of [23] tree_text and names_in."""

import itertools
import random
import unittest

from bracketwords.errors import BadText, BracketError
from bracketwords.trees import names_in, read_tree, tree_text
from tests.grammar import begins_some, drawn_items, is_text, longest_beginning, spoilt
from tests.making import check_own_list, kinds_in

A, B = ("letter", 1), ("letter", 2)


def items(*trees):
    return ("items", trees)


def names_told(tree):
    """All names in the tree, found by going through all that is in it."""
    if tree[0] == "name":
        return {tree[1]}
    found = set()
    parts = tree[1] if tree[0] == "items" else tree[1:]
    for part in parts:
        if isinstance(part, tuple):
            found |= names_told(part)
    return found


class ReadTree(unittest.TestCase):
    def check_tree(self, text, tree):
        told = read_tree(text)
        self.assertEqual(kinds_in(told), kinds_in(tree), text)
        self.assertEqual(tree_text(told), text)
        self.assertEqual(read_tree(text), tree)

    def check_bad(self, text, at):
        with self.assertRaises(BracketError) as caught:
            read_tree(text)
        self.assertIs(type(caught.exception), BadText)
        self.assertEqual(kinds_in(caught.exception.at), kinds_in(at), text)

    def test_each_kind_of_item(self):
        for text, tree in (
            ("a", items(A)),
            ("d", items(("letter", 4))),
            ("1", items(("none",))),
            ("ab", items(("name", "ab"))),
            ("zz", items(("name", "zz"))),
            ("abcdefgh", items(("name", "abcdefgh"))),
            ("a b", items(A, B)),
            ("a^2", items(("power", A, 2))),
            ("a^1", items(("power", A, 1))),
            ("a^0", items(("power", A, 0))),
            ("a^-1", items(("power", A, -1))),
            ("1^10", items(("power", ("none",), 10))),
            ("ab^-20", items(("power", ("name", "ab"), -20))),
            ("[a, b]", items(("bracket", items(A), items(B)))),
            ("[a b, 1]^3", items(("power", ("bracket", items(A, B), items(("none",))), 3))),
            ("(a)", items(items(A))),
            ("(a b)^-2 b", items(("power", items(A, B), -2), B)),
            ("((a))", items(items(items(A)))),
            ("[[a, b], (b)]", items(("bracket", items(("bracket", items(A), items(B))), items(items(B))))),
            ("[a, b^2 a]", items(("bracket", items(A), items(("power", B, 2), A)))),
        ):
            self.check_tree(text, tree)

    def test_drawn(self):
        source = random.Random("trees")
        for time in range(400):
            text, tree = drawn_items(source, source.randrange(5), most=3)
            self.check_tree(text, tree)

    def test_names_and_letters(self):
        for sign in "abcdefghijklmnopqrstuvwxyz":
            if sign in "abcd":
                self.check_tree(sign, items(("letter", "abcd".index(sign) + 1)))
            else:
                self.check_bad(sign, 1)
                self.check_bad(sign + " a", 1)
                self.check_bad("[" + sign + ", a]", 2)
            for size in range(2, 9):
                self.check_tree(sign * size, items(("name", sign * size)))
            self.check_bad(sign * 9, 8)
            self.check_bad("a " + sign * 9 + "^2", 10)

    def test_twenty_brackets(self):
        for many in range(1, 21):
            self.check_tree("(" * many + "a" + ")" * many, self.within(many))
        tree = items(A)
        for time in range(20):
            tree = items(("bracket", items(B), tree))
        self.check_tree("[b, " * 20 + "a" + "]" * 20, tree)
        text = "(" * 10 + "[" * 10 + "a" + ", b]" * 10 + ")" * 10
        self.assertEqual(tree_text(read_tree(text)), text)
        # Twenty within one another, many times side by side.
        twenty = "(" * 20 + "a" + ")" * 20
        self.assertEqual(tree_text(read_tree(" ".join([twenty] * 5))), " ".join([twenty] * 5))

    def within(self, many):
        tree = items(A)
        for time in range(many):
            tree = items(tree)
        return tree

    def test_twenty_one_brackets(self):
        self.check_bad("(" * 21 + "a" + ")" * 21, 20)
        self.check_bad("[" * 21 + "a" + ", b]" * 21, 20)
        self.check_bad("[b, " * 21 + "a" + "]" * 21, 80)
        self.check_bad("(" * 20 + "a [a, b]" + ")" * 20, 22)
        self.check_bad("(" * 20 + "[", 20)
        self.check_bad("(" * 20, 20)

    def test_three_hundred_signs(self):
        for text in (" ".join(["a"] * 149) + " zz", "(" + " ".join(["[a, b]"] * 42) + " ab^5)", "a" + " ab" * 99 + " d"):
            text += " a" * ((300 - len(text)) // 2)
            self.assertIn(len(text), (299, 300))
            self.assertEqual(tree_text(read_tree(text)), text)
        exact = "ab " + "abc " * 74 + "a"
        self.assertEqual(len(exact), 300)
        self.check_tree(exact, items(("name", "ab"), *[("name", "abc")] * 74, A))
        self.check_bad(exact[:-1] + "^", 299)
        self.check_bad(exact[:-1] + "e", 300)
        self.check_bad(" " + exact[1:], 0)

    def test_figures(self):
        for n in (0, 1, -1, 9, 10, -10, 100000000, 999999999, -999999999, 123456789):
            self.check_tree(f"a^{n}", items(("power", A, n)))
            self.check_tree(f"[ab^{n}, 1]^{n}", items(
                ("power", ("bracket", items(("power", ("name", "ab"), n)), items(("none",))), n)
            ))
        self.check_bad("a^1234567890", 11)
        self.check_bad("a^-1234567890", 12)
        self.check_bad("a^00", 3)
        self.check_bad("a^01", 3)
        self.check_bad("a^-0", 3)
        self.check_bad("a^-01", 3)
        self.check_bad("a^--1", 3)
        self.check_bad("a^+1", 2)
        self.check_bad("a^", 2)
        self.check_bad("a^-", 3)
        self.check_bad("a^ 1", 2)
        self.check_bad("a^2^2", 3)
        self.check_bad("a ^2", 2)
        self.check_bad("a^b", 2)
        self.check_bad("a^2b", 3)

    def test_the_document_s_own(self):
        self.check_bad("[a", 2)
        self.check_bad("", 0)
        self.check_bad("a^-0", 3)

    def test_blanks_and_other_signs(self):
        for text, at in (
            (" ", 0), (" a", 0), ("a ", 2), ("a  b", 2), ("a b ", 4), ("[a,b]", 3), ("[a , b]", 3), ("[a,  b]", 4),
            ("[a, b ]", 6), ("[ a, b]", 1), ("( a)", 1), ("(a )", 3), ("[a]", 2), ("[a, b, a]", 5), ("(a, b)", 2),
            ("()", 1), ("[]", 1), ("[, a]", 1), ("[a, ]", 4), ("a)", 1), ("a]", 1), (")", 0), ("]", 0), (",", 0),
            ("(a]", 2), ("[a, b)", 5), ("A", 0), ("0", 0), ("2", 0), ("-1", 0), ("^", 0), ("11", 1), ("1a", 1),
            ("a1", 1), ("ab1", 2), ("ab2", 2), ("(a)(b)", 3), ("[a, b][a, b]", 6), ("(a)b", 3), ("a(b)", 1),
            ("a~", 1), ("!", 0), ("a,", 1), ("a, b", 1), ("((a)", 4), ("[[a, b], c", 10), ("(a) (", 5), ("e1", 1),
        ):
            self.check_bad(text, at)
            self.assertEqual(longest_beginning(text), at, text)

    def test_spoilt_at_any_place(self):
        source = random.Random("spoilt")
        bad = 0
        for time in range(150):
            text, tree = drawn_items(source, source.randrange(4), most=3)
            for other in spoilt(text[:120], source, 4):
                if is_text(other):
                    self.assertEqual(tree_text(read_tree(other)), other)
                else:
                    self.check_bad(other, longest_beginning(other))
                    bad += 1
        self.assertGreater(bad, 1000)

    def test_spoilt_deep_texts(self):
        source = random.Random("deep")
        for many in (18, 19, 20):
            for text in ("(" * many + "[a, b]" + ")" * many, "[b, " * many + "ef^-12" + "]" * many):
                for other in spoilt(text, source, 40):
                    if is_text(other):
                        self.assertEqual(tree_text(read_tree(other)), other)
                    else:
                        self.check_bad(other, longest_beginning(other))

    def test_every_short_text(self):
        for size in range(5):
            for signs in itertools.product("ae1^-0[(,) ]", repeat=size):
                text = "".join(signs)
                if is_text(text):
                    self.assertEqual(tree_text(read_tree(text)), text)
                elif size < 4:
                    self.check_bad(text, longest_beginning(text))
                else:
                    with self.assertRaises(BadText) as caught:
                        read_tree(text)
                    at = caught.exception.at
                    self.assertTrue(at == 0 or begins_some(text[:at]), text)
                    self.assertFalse(at < 4 and begins_some(text[:at + 1]), text)


class TreeText(unittest.TestCase):
    def test_of_told_trees(self):
        source = random.Random("texts")
        for time in range(200):
            text, tree = drawn_items(source, 4, most=3)
            told = tree_text(tree)
            self.assertIs(type(told), str)
            self.assertEqual(told, text)
            self.assertEqual(read_tree(told), tree)

    def test_trees_stay(self):
        tree = read_tree("[a, (ab b^-3)] 1")
        kept = kinds_in(tree)
        for time in range(2):
            self.assertEqual(tree_text(tree), "[a, (ab b^-3)] 1")
            self.assertEqual(names_in(tree), ["ab"])
        self.assertEqual(kinds_in(tree), kept)


class NamesIn(unittest.TestCase):
    def test_ordinary(self):
        for text, names in (
            ("a", []), ("1", []), ("ab", ["ab"]), ("zz ab zz", ["ab", "zz"]), ("[ef, (cd^0 ab)]^2", ["ab", "cd", "ef"]),
            ("b aaa aa", ["aa", "aaa"]), ("((ab))^0", ["ab"]),
        ):
            self.assertEqual(check_own_list(self, names_in, read_tree(text)), names)

    def test_drawn(self):
        source = random.Random("names")
        for time in range(200):
            text, tree = drawn_items(source, 4, most=3)
            self.assertEqual(names_in(tree), sorted(names_told(tree)))


if __name__ == "__main__":
    unittest.main()

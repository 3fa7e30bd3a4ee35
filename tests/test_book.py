"""book.py: points [2], [24] and [25]."""

import itertools
import random
import unittest

from bracketwords.book import Book
from bracketwords.doing import place_row, row_raised, rows_joined
from bracketwords.errors import BadName, BadText, BracketError, NoLetter, NoName, Ring, TooGreat
from bracketwords.grounds import Ground
from tests.grammar import Model, drawn_items
from tests.making import check_asking, check_own_list, is_row, kinds_in

SOME = ["aa", "bb", "cc", "dd", "ee"]
THIRTY = [one + other for one in "abcdef" for other in "vwxyz"]


def told_row(book, name):
    """The book's row, or the refusal's class and its name."""
    try:
        return book.row(name)
    except BracketError as refusal:
        return (type(refusal), getattr(refusal, "name", None))


def filled(ground, formulas):
    """A book with these formulas."""
    book = Book(ground)
    for name, text in formulas.items():
        book.let(name, text)
    return book


def all_of(book):
    """All that a book tells."""
    return (
        book.names(), [book.text_of(name) for name in book.names()], [book.needs(name) for name in book.names()],
        [book.used_by(name) for name in SOME + ["zz"]], [told_row(book, name) for name in SOME], book.rows(),
    )


class Checks(unittest.TestCase):
    def check_refused(self, book, refusal, field, asked, *handed):
        """Refused with just that class and field, and all is as ahead of it."""
        kept = all_of(book)
        with self.assertRaises(BracketError) as caught:
            asked(*handed)
        self.assertIs(type(caught.exception), refusal, handed)
        for name in ("at", "letter", "name", "ring"):
            if hasattr(caught.exception, name):
                self.assertEqual(kinds_in(getattr(caught.exception, name)), kinds_in(field), handed)
        self.assertEqual(all_of(book), kept)


class Let(Checks):
    def test_ordinary(self):
        book = Book(Ground(2, 2))
        self.assertEqual((book.names(), book.rows(), book.used_by("aa")), ([], [], []))
        self.assertIsNone(book.let("xx", "a b"))
        self.assertIsNone(book.let("aa", "[xx, b]^2"))
        self.assertEqual(book.names(), ["aa", "xx"])
        self.assertEqual(book.text_of("aa"), "[xx, b]^2")
        self.assertEqual(book.row("aa"), (0, 0, 2))
        book.let("xx", "a^5")
        self.assertEqual(book.names(), ["aa", "xx"])
        self.assertEqual(book.text_of("xx"), "a^5")
        self.assertEqual(book.row("aa"), (0, 0, 10))

    def test_bad_names(self):
        book = filled(Ground(2, 2), {"aa": "a"})
        for name in (
            "", "a", "z", "1", "abcdefghi", "Ab", "AB", "a1", "a b", "ab ", " ab", "a-b", "[a, b]", "ab^2", "a_", "~~"
        ):
            for text in ("a", "aa", "", "c", "[a", name):
                self.check_refused(book, BadName, None, book.let, name, text)
                self.check_refused(book, BadName, None, book.changed, name, text)
        for name in ("ab", "zz", "abcdefgh", "let", "aaa"):
            book.let(name, "b")
            self.assertEqual(book.row(name), (0, 1, 0))

    def test_bad_texts(self):
        book = filled(Ground(2, 2), {"aa": "a"})
        for name in ("aa", "bb"):
            for text, at in (("", 0), ("[a", 2), ("a^-0", 3), (" a", 0), ("c [aa", 5), (name + " c^00", 6), ("e", 1)):
                self.check_refused(book, BadText, at, book.let, name, text)
                self.check_refused(book, BadText, at, book.changed, name, text)

    def test_no_letter(self):
        book = filled(Ground(2, 2), {"aa": "a"})
        for name in ("aa", "bb"):
            for text, letter in (("c", 3), ("a d c", 4), ("[aa bb, c^0]", 3), (name + " d", 4)):
                self.check_refused(book, NoLetter, letter, book.let, name, text)
                self.check_refused(book, NoLetter, letter, book.changed, name, text)
        book = Book(Ground(4, 1))
        book.let("aa", "a b c d")
        self.assertEqual(book.row("aa"), (1, 1, 1, 1))

    def test_formulas_need_not_be_there(self):
        book = Book(Ground(2, 2))
        book.let("aa", "bb cc")
        self.assertEqual(book.names(), ["aa"])
        self.assertEqual(book.needs("aa"), ["bb", "cc"])
        self.assertEqual(book.rows(), [("aa", None)])

    def test_thirty_names(self):
        ground = Ground(2, 3)
        book = Book(ground)
        for at, name in enumerate(THIRTY):
            book.let(name, "a" if at == 0 else f"{THIRTY[at - 1]} b")
        self.assertEqual(book.names(), sorted(THIRTY))
        self.assertEqual(book.needs(THIRTY[-1]), sorted(THIRTY[:-1]))
        self.assertEqual(book.used_by(THIRTY[0]), sorted(THIRTY[1:]))
        self.assertEqual(book.row(THIRTY[-1]), (1, 29, 0, 0, 0))
        self.assertEqual(len(book.rows()), 30)
        self.check_refused(book, Ring, [THIRTY[0]] + THIRTY[:0:-1] + [THIRTY[0]], book.let, THIRTY[0], THIRTY[-1])
        self.assertEqual(book.changed(THIRTY[0], "1"), sorted(THIRTY))
        self.assertEqual(book.row(THIRTY[-1]), (0, 29, 0, 0, 0))
        for name in THIRTY:
            book.drop(name)
        self.assertEqual(book.names(), [])

    def test_thirty_names_backwards(self):
        # Each name is doubled in the next one: to reckon one again and again would never end.
        book = Book(Ground(2, 2))
        names = THIRTY[::-1]
        for at, name in enumerate(names[:-1]):
            book.let(name, f"{names[at + 1]} {names[at + 1]}")
        book.let(names[-1], "b")
        self.assertEqual(book.row(names[0]), (0, 2 ** 29, 0))


    def test_thirty_names_that_need_all_behind_them(self):
        # There are too many ways from the first name to the last one to go through each.
        book = Book(Ground(1, 1))
        for at, name in reversed(list(enumerate(THIRTY))):
            book.let(name, " ".join(["a"] + THIRTY[at + 1:]))
        self.assertEqual(book.row(THIRTY[0]), (2 ** 29,))
        self.assertEqual(book.needs(THIRTY[0]), sorted(THIRTY[1:]))
        self.assertEqual(book.used_by(THIRTY[-1]), sorted(THIRTY[:-1]))
        self.check_refused(book, Ring, [THIRTY[-1], THIRTY[0], THIRTY[-1]], book.let, THIRTY[-1], THIRTY[0])


class Rings(Checks):
    def test_ordinary(self):
        book = filled(Ground(2, 2), {"bb": "aa", "cc": "bb", "dd": "[cc, bb]"})
        self.check_refused(book, Ring, ["aa", "aa"], book.let, "aa", "aa")
        self.check_refused(book, Ring, ["aa", "aa"], book.let, "aa", "bb (a aa)^0")
        self.check_refused(book, Ring, ["aa", "bb", "aa"], book.let, "aa", "b bb")
        self.check_refused(book, Ring, ["aa", "cc", "bb", "aa"], book.let, "aa", "cc")
        self.check_refused(book, Ring, ["aa", "bb", "aa"], book.let, "aa", "cc bb")
        self.check_refused(book, Ring, ["aa", "dd", "bb", "aa"], book.let, "aa", "dd")
        self.check_refused(book, Ring, ["bb", "cc", "bb"], book.let, "bb", "[a, cc dd]")
        self.check_refused(book, Ring, ["zz", "zz"], book.changed, "zz", "zz")
        book.let("aa", "a zz")
        self.assertEqual(book.names(), ["aa", "bb", "cc", "dd"])

    def test_of_several_the_first(self):
        book = filled(Ground(2, 2), {"cc": "ee", "bb": "dd", "dd": "aa", "ee": "aa", "ff": "aa bb"})
        self.check_refused(book, Ring, ["aa", "bb", "dd", "aa"], book.let, "aa", "cc bb")
        self.check_refused(book, Ring, ["aa", "cc", "ee", "aa"], book.let, "aa", "cc zz")
        self.check_refused(book, Ring, ["aa", "ff", "aa"], book.let, "aa", "bb cc ff")
        # The ring goes on by the least name, though another one is met by a shorter beginning.
        book = filled(Ground(2, 2), {"bb": "dd ee", "cc": "dd", "dd": "aa", "ee": "aa"})
        self.check_refused(book, Ring, ["aa", "bb", "dd", "aa"], book.let, "aa", "cc bb")

    def test_a_formula_in_the_place_of_another_one(self):
        book = filled(Ground(2, 2), {"aa": "bb", "bb": "cc", "cc": "a"})
        self.check_refused(book, Ring, ["cc", "aa", "bb", "cc"], book.let, "cc", "aa")
        book.let("aa", "b")
        book.let("cc", "aa")
        self.assertEqual(book.row("bb"), (0, 1, 0))
        self.check_refused(book, Ring, ["aa", "bb", "cc", "aa"], book.let, "aa", "bb")
        book.drop("bb")
        book.let("aa", "bb")
        self.check_refused(book, Ring, ["bb", "cc", "aa", "bb"], book.let, "bb", "cc")

    def test_the_ring_is_the_asker_s_own(self):
        book = filled(Ground(2, 2), {"bb": "aa"})
        for time in range(2):
            with self.assertRaises(Ring) as caught:
                book.let("aa", "bb")
            self.assertEqual(caught.exception.ring, ["aa", "bb", "aa"])
            caught.exception.ring.append("changed")
        self.assertEqual(book.names(), ["bb"])


class Asked(Checks):
    def test_names_not_there(self):
        book = filled(Ground(2, 2), {"aa": "zz yy", "bb": "a"})
        for name in ("zz", "yy", "cc", "abcdefgh"):
            for asked in (book.drop, book.text_of, book.needs, book.row):
                self.check_refused(book, NoName, name, asked, name)
        self.assertEqual(book.used_by("zz"), ["aa"])
        self.assertEqual(book.used_by("cc"), [])

    def test_needs_and_used_by(self):
        book = filled(Ground(2, 2), {"dd": "cc bb", "cc": "[bb, aa]", "bb": "zz^0", "aa": "1"})
        self.assertEqual(book.needs("dd"), ["aa", "bb", "cc", "zz"])
        self.assertEqual(book.needs("cc"), ["aa", "bb", "zz"])
        self.assertEqual(book.needs("bb"), ["zz"])
        self.assertEqual(book.needs("aa"), [])
        self.assertEqual(book.used_by("zz"), ["bb", "cc", "dd"])
        self.assertEqual(book.used_by("bb"), ["cc", "dd"])
        self.assertEqual(book.used_by("dd"), [])
        book.drop("cc")
        self.assertEqual(book.needs("dd"), ["bb", "cc", "zz"])
        self.assertEqual(book.used_by("aa"), [])
        self.assertEqual(book.used_by("cc"), ["dd"])

    def test_text_of(self):
        source = random.Random("text of")
        book = Book(Ground(4, 1))
        for time in range(50):
            text, tree = drawn_items(source, 4, names=["zz", "yyy"], most=3)
            if len(text) <= 300:
                book.let("aa", text)
                self.assertEqual(book.text_of("aa"), text)

    def test_drop_and_let_again(self):
        book = filled(Ground(2, 2), {"aa": "a", "bb": "aa b"})
        self.assertIsNone(book.drop("aa"))
        self.assertEqual(book.names(), ["bb"])
        self.check_refused(book, NoName, "aa", book.row, "bb")
        self.check_refused(book, NoName, "aa", book.drop, "aa")
        book.let("aa", "b")
        self.assertEqual(book.row("bb"), (0, 2, 0))


class Row(Checks):
    def test_ordinary(self):
        ground = Ground(2, 2)
        book = filled(ground, {"aa": "a", "bb": "aa b", "cc": "[aa, bb]^3 bb"})
        self.assertEqual(book.row("cc"), (1, 1, 3))
        self.assertTrue(is_row(ground, book.row("cc")))
        self.assertEqual(book.rows(), [("aa", (1, 0, 0)), ("bb", (1, 1, 0)), ("cc", (1, 1, 3))])

    def test_the_least_that_is_not_there(self):
        book = filled(Ground(2, 2), {"cc": "zz dd", "dd": "yy ee", "ee": "xx", "bb": "zz", "great": "a"})
        self.check_refused(book, NoName, "xx", book.row, "cc")
        self.check_refused(book, NoName, "xx", book.row, "ee")
        self.check_refused(book, NoName, "zz", book.row, "bb")
        book.let("xx", "a")
        self.check_refused(book, NoName, "yy", book.row, "cc")
        book.let("yy", "aa")
        self.check_refused(book, NoName, "aa", book.row, "cc")
        self.check_refused(book, NoName, "mm", book.row, "mm")

    def test_too_great(self):
        # Each name is the one ahead of it, raised by 10 ** 8: the 25th one is too great.
        book = Book(Ground(1, 1))
        book.let("aa", "a^100000000")
        names = ["aa"]
        for name in THIRTY[5:28]:
            book.let(name, f"{names[-1]}^100000000")
            names.append(name)
        for at, name in enumerate(names):
            if 8 * (at + 1) < 200:
                self.assertEqual(book.row(name), (10 ** (8 * (at + 1)),))
            else:
                self.check_refused(book, TooGreat, None, book.row, name)

    def test_just_there(self):
        book, last = Book(Ground(1, 1)), "a"
        for name in THIRTY[:24]:
            book.let(name, f"{last}^100000000")
            last = name
        book.let("zz", f"{last}^10000000")
        self.assertEqual(book.row("zz"), (10 ** 199,))
        book.let("yy", "zz^10")
        self.check_refused(book, TooGreat, None, book.row, "yy")
        book.let("yy", "zz^9")
        self.assertEqual(book.row("yy"), (9 * 10 ** 199,))
        book.let("most", "yy^-1 zz^-1 a")
        self.check_refused(book, TooGreat, None, book.row, "most")
        book.let("most", "yy^-1 a zz^-1")
        self.assertEqual(book.row("most"), (1 - 10 ** 200,))
        # What needs a name that is refused is refused, whatever it makes of it.
        book.let("yy", "zz^10")
        book.let("xx", "yy^0")
        self.check_refused(book, TooGreat, None, book.row, "xx")
        self.assertEqual(dict(book.rows())["xx"], None)
        # A name that is not there goes ahead.
        book.let("xx", "yy vv")
        self.check_refused(book, NoName, "vv", book.row, "xx")

    def test_own_lists(self):
        book = filled(Ground(2, 2), {"aa": "a", "bb": "aa b", "cc": "zz"})
        for asked, handed in (
            (book.names, ()), (book.rows, ()), (book.needs, ("bb",)), (book.used_by, ("aa",)), (book.used_by, ("cc",)),
            (book.needs, ("aa",)),
        ):
            check_own_list(self, asked, *handed)
            check_asking(self, asked, *handed)
        first, second = book.changed("zz", "1"), book.changed("zz", "a")
        self.assertEqual((first, second), (["cc", "zz"], ["cc", "zz"]))
        first.clear()
        self.assertEqual(second, ["cc", "zz"])
        self.assertEqual(book.changed("zz", "a"), [])


class Changed(Checks):
    def test_ordinary(self):
        book = filled(Ground(2, 2), {"aa": "a", "bb": "aa b", "cc": "[a, b]"})
        self.assertEqual(book.changed("aa", "a^2"), ["aa", "bb"])
        self.assertEqual(book.changed("aa", "a a"), [])
        self.assertEqual(book.text_of("aa"), "a a")
        self.assertEqual(book.changed("dd", "bb"), ["dd"])
        self.assertEqual(book.changed("ee", "zz"), [])
        self.assertEqual(book.changed("zz", "1"), ["ee", "zz"])
        self.assertEqual(book.changed("cc", "[aa, bb]"), ["cc"])
        self.assertEqual(book.changed("aa", "vv"), ["aa", "bb", "cc", "dd"])
        self.assertEqual(book.changed("vv", "uu"), [])
        self.assertEqual(book.changed("aa", "1"), ["aa", "bb", "cc", "dd"])

    def test_names_that_change_in_two_ways(self):
        # A name whose formula has another one and its back stays as it is.
        book = filled(Ground(2, 2), {"aa": "a", "bb": "aa aa^-1", "cc": "[aa, b]", "dd": "aa^0"})
        self.assertEqual(book.changed("aa", "a b"), ["aa"])
        self.assertEqual(book.changed("aa", "a^2 b"), ["aa", "cc"])
        self.assertEqual(book.changed("aa", "zz"), ["aa", "bb", "cc", "dd"])

    def test_a_name_comes_to_need_one_that_is_there(self):
        book = filled(Ground(2, 2), {"aa": "bb", "cc": "a"})
        self.assertEqual(book.changed("bb", "cc"), ["aa", "bb"])
        self.assertEqual(book.changed("cc", "a^-1"), ["aa", "bb", "cc"])


class Twin(Checks):
    def test_goes_its_own_way(self):
        book = filled(Ground(2, 2), {"aa": "a", "bb": "aa b"})
        twin = book.twin()
        self.assertIsInstance(twin, Book)
        self.assertEqual(all_of(twin), all_of(book))
        again = twin.twin()
        book.let("aa", "b")
        self.assertEqual(twin.row("bb"), (1, 1, 0))
        twin.drop("bb")
        self.assertEqual(again.row("bb"), (1, 1, 0))
        self.assertEqual(book.row("bb"), (0, 2, 0))
        self.assertEqual(twin.names(), ["aa"])
        again.let("cc", "bb^2")
        self.assertEqual((book.names(), twin.names(), again.names()), (["aa", "bb"], ["aa"], ["aa", "bb", "cc"]))
        with self.assertRaises(Ring):
            again.let("aa", "cc")
        self.assertEqual(book.changed("aa", "cc"), ["aa", "bb"])
        self.assertEqual(again.row("cc"), row_raised(Ground(2, 2), (1, 1, 0), 2))

    def test_of_an_empty_book(self):
        book = Book(Ground(1, 1))
        twin = book.twin()
        twin.let("aa", "a")
        self.assertEqual((book.names(), twin.names()), ([], ["aa"]))


class Drawn(Checks):
    def check_all(self, book, model):
        """The book tells what the model does."""
        self.assertEqual(book.names(), sorted(model.texts))
        for name in book.names():
            self.assertEqual(book.text_of(name), model.texts[name])
            self.assertEqual(book.needs(name), model.all_needs(name))
        for name in SOME + ["zz"]:
            users = [other for other in sorted(model.texts) if name in model.all_needs(other)]
            self.assertEqual(book.used_by(name), users)
            self.assertEqual(told_row(book, name), model.row(name))
        self.assertEqual(book.rows(), model.rows())

    def let_both(self, book, model, name, text, telling):
        """let, or changed where telling, in both; tells whether it was refused."""
        before, kept = dict(model.rows()), model.texts.get(name)
        model.texts[name] = text
        ring = model.ring(name)
        if ring is not None:
            if kept is None:
                del model.texts[name]
            else:
                model.texts[name] = kept
            self.check_refused(book, Ring, ring, book.changed if telling else book.let, name, text)
            return True
        if telling:
            told = book.changed(name, text)
            self.assertEqual(told, [other for other, row in model.rows() if row != before.get(other)])
        else:
            self.assertIsNone(book.let(name, text))
        return False

    def drawn_text(self, source, letters):
        # Now and then a power so great that a chain of names is refused.
        power = source.choice((2, 3, 999999999))
        return drawn_items(source, source.randrange(3), letters, SOME, 2, power)[0]

    def test_beside_the_model(self):
        rings = 0
        for seed, (letters, depth) in enumerate(((2, 2), (2, 3), (1, 1), (3, 2), (4, 1), (2, 2))):
            source = random.Random(seed)
            ground = Ground(letters, depth)
            book, model = Book(ground), Model(ground)
            for time in range(60):
                name = source.choice(SOME)
                if source.randrange(6) == 0 and name in model.texts:
                    book.drop(name)
                    del model.texts[name]
                else:
                    text = self.drawn_text(source, letters)
                    rings += self.let_both(book, model, name, text, source.randrange(2) == 0)
                self.check_all(book, model)
        self.assertGreater(rings, 30)

    def test_every_small_book(self):
        # Every way in which three names have one another in their formulas, the last let closing the ring.
        ground = Ground(1, 1)
        three = SOME[:3]
        for picks in itertools.product(range(8), repeat=3):
            texts = [
                " ".join(["a"] + [name for bit, name in enumerate(three) if pick >> bit & 1]) for pick in picks
            ]
            book, model = Book(ground), Model(ground)
            for name, text in zip(three, texts):
                self.let_both(book, model, name, text, False)
            self.assertEqual(book.rows(), model.rows())

    def test_two_books_by_turns(self):
        one, other = Book(Ground(2, 2)), Book(Ground(2, 3))
        one.let("aa", "a")
        other.let("aa", "b")
        one.let("bb", "aa^2")
        self.assertEqual(other.names(), ["aa"])
        other.let("bb", "aa^3 a")
        self.assertEqual((one.row("bb"), other.row("bb")), ((2, 0, 0), rows_joined(
            Ground(2, 3), (0, 3, 0, 0, 0), (1, 0, 0, 0, 0)
        )))
        one.drop("aa")
        self.assertEqual(other.row("aa"), place_row(Ground(2, 3), 1))


if __name__ == "__main__":
    unittest.main()

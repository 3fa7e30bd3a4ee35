"""The whole program: points [1] and [2], and that the interface is there."""

import importlib
import inspect
import random
import unittest

from bracketwords import errors
from bracketwords.book import Book
from bracketwords.choices import chosen
from bracketwords.desk import run
from bracketwords.doing import (
    deepness, letter_rows, nothing, row_backed, row_raised, row_turned, rows_bracketed, rows_joined, shallower
)
from bracketwords.going import companion_parts, companions, go_together
from bracketwords.grounds import Ground
from bracketwords.laying import laid_together
from bracketwords.papers import followed, paper_of
from bracketwords.puts import Put
from bracketwords.roots import most_root, root
from bracketwords.rows import row_by, row_of, spelled, sums_of, unlike_at
from bracketwords.rules import Rules
from bracketwords.sums import scattered, sums_backed, sums_joined, sums_repeated
from bracketwords.tables import divided, how_spread, is_steady, is_table, table_of
from bracketwords.texts import row_in, row_text
from bracketwords.trees import names_in, read_tree, tree_text
from bracketwords.turning import cut, halves, how_many, is_turnword, least_turn, turns, turnwords
from bracketwords.words import backed, bracketed, joined, repeated, shortened
from tests.making import (
    PAIRS, all_shapes, check_asking, each_ground, few_words, kinds_in, lists_in, made_plain_words, made_rows, made_words
)

FUNCTIONS = {
    "words": "backed joined shortened repeated bracketed",
    "turning": "turns is_turnword least_turn turnwords how_many cut halves",
    "sums": "scattered sums_joined sums_backed sums_repeated",
    "laying": "laid_together",
    "rows": "row_of sums_of row_by spelled unlike_at",
    "doing": "nothing rows_joined row_backed row_raised rows_bracketed row_turned deepness shallower",
    "choices": "chosen",
    "roots": "root most_root",
    "going": "go_together companions companion_parts",
    "tables": "table_of divided is_table how_spread is_steady",
    "papers": "paper_of followed",
    "trees": "read_tree tree_text names_in",
    "texts": "row_in row_text",
    "desk": "run",
}
CLASSES = {
    ("grounds", "Ground"): "letters depth words turnwords places word_at place_of size_at parts_at bracket_at",
    ("rules", "Rules"): "joined_terms raised_terms rules_joined rules_raised rules_backed ground",
    ("puts", "Put"): "put_word put_row rows put_place behind numbers turning undone",
    ("book", "Book"): "let drop names text_of needs used_by row rows changed twin",
}
PARAMETERS = {
    "row_in": 3, "run": 1, "followed": 3, "divided": 3, "table_of": 2, "companion_parts": 3, "shallower": 3, "chosen": 2,
    "row_text": 2, "names_in": 1, "unlike_at": 3, "is_steady": 2, "paper_of": 2, "laid_together": 2, "most_root": 2,
}


def sign_text(word):
    """The word as a text."""
    return " ".join("abcd"[abs(step) - 1] + ("^-1" if step < 0 else "") for step in word) or "1"


def deep_words(ground):
    """Brackets of depth + 1 letters, in every shape."""
    letters = [((at % ground.letters()) + 1,) for at in range(ground.depth() + 1)]
    return all_shapes(letters) + all_shapes([backed(letter) for letter in letters[::-1]])


def askings(ground):
    """Pairs of each function and what is handed in to it, on the ground."""
    words = made_words(ground.letters(), [4, 7], "askings")
    plain = made_plain_words(ground.letters(), [3, 2], "askings")
    rows = made_rows(ground, 20, 4, "askings")
    sums = [scattered(ground, word) for word in words]
    told = [
        (backed, words[0]), (joined, *words), (shortened, words[1]), (repeated, words[0], -3), (bracketed, *words),
        (turns, plain[0]), (is_turnword, plain[0]), (least_turn, plain[0]), (turnwords, ground.letters(), 3),
        (how_many, 3, 20), (cut, plain[0]), (halves, (1, 1, 2)), (scattered, ground, words[0]),
        (sums_joined, ground, *sums), (sums_backed, ground, sums[0]), (sums_repeated, ground, sums[0], 10 ** 20),
        (laid_together, *plain), (row_of, ground, words[1]), (sums_of, ground, rows[0]), (row_by, ground, sums[1]),
        (spelled, ground, nothing(ground)), (spelled, ground, letter_rows(ground)[0]), (unlike_at, ground, *words),
        (nothing, ground), (rows_joined, ground, *rows[:2]), (row_backed, ground, rows[0]),
        (row_raised, ground, rows[0], 10 ** 20), (rows_bracketed, ground, *rows[:2]), (row_turned, ground, *rows[:2]),
        (deepness, ground, rows[1]), (shallower, ground, rows[0], 1), (chosen, -10 ** 20, 7), (root, ground, rows[0], 2),
        (root, ground, row_raised(ground, rows[0], 2), 2), (most_root, ground, rows[0]), (go_together, ground, *rows[:2]),
        (companions, ground, rows[0]), (companion_parts, ground, rows[0], rows[0]), (row_text, ground, rows[0]),
        (read_tree, "[a, (ab b^-3)] 1"), (names_in, read_tree("zz [ab, a]")), (tree_text, read_tree("zz [ab, a]")),
        (run, f"ground {ground.letters()} {ground.depth()}\nlet xx = a^2\nrow xx\nneeds xx\nlet xx = xx"),
    ]
    return told + group_askings(ground, rows)


def group_askings(ground, rows):
    """The same of tables and papers, where the ground is small enough."""
    if ground.places() > 8:
        return []
    table = table_of(ground, rows[:2])
    return [
        (table_of, ground, rows[:2]), (divided, ground, table, rows[2]), (divided, ground, table, rows[0]),
        (is_table, ground, table), (is_table, ground, rows), (how_spread, ground, table), (is_steady, ground, table),
        (paper_of, ground, rows[:2]), (followed, ground, rows[:2], paper_of(ground, rows[:2])),
    ]


def ground_answers(ground):
    """All that a ground tells."""
    places = range(ground.places())
    return (
        ground.letters(), ground.depth(), ground.words(), ground.turnwords(), ground.places(),
        [ground.word_at(place) for place in places], [ground.place_of(ground.word_at(place)) for place in places],
        [ground.size_at(place) for place in places], [ground.parts_at(place) for place in places],
        [ground.bracket_at(place) for place in places],
    )


def rules_answers(rules):
    """All that rules tell."""
    ground = rules.ground()
    one, other = made_rows(ground, 99, 2, "rules answers")
    places = range(ground.places())
    return (
        [rules.joined_terms(place) for place in places], [rules.raised_terms(place) for place in places],
        rules.rules_joined(one, other), rules.rules_raised(one, 50), rules.rules_backed(other),
        (ground.letters(), ground.depth()),
    )


def put_answers(put):
    """What a Put of two letters tells."""
    return (put.rows(), put.numbers(), put.put_word((1, -2, 1)), put.put_place(1), put.turning())


def book_answers(book):
    """What a book tells."""
    return (
        book.names(), [book.text_of(name) for name in book.names()], [book.needs(name) for name in book.names()],
        book.used_by("aa"), book.rows(),
    )


class Interface(unittest.TestCase):
    def test_functions(self):
        for file, names in FUNCTIONS.items():
            module = importlib.import_module(f"bracketwords.{file}")
            for name in names.split():
                function = getattr(module, name)
                self.assertTrue(inspect.isfunction(function), name)
                self.assertEqual(function.__module__, module.__name__)
                if name in PARAMETERS:
                    self.assertEqual(len(inspect.signature(function).parameters), PARAMETERS[name], name)

    def test_classes(self):
        for (file, name), methods in CLASSES.items():
            kind = getattr(importlib.import_module(f"bracketwords.{file}"), name)
            for method in methods.split():
                # In the class itself, not only in one above it.
                self.assertTrue(inspect.isfunction(vars(kind)[method]), method)

    def test_refusals(self):
        names = (
            "NoGround NoPlace TooLong NoRules NoPut BadText NoLetter NoName TooGreat BadName Ring BadRow".split()
        )
        for name in names:
            self.assertEqual(getattr(errors, name).__bases__, (errors.BracketError,))
        self.assertEqual(errors.BracketError.__bases__, (ValueError,))


class Asking(unittest.TestCase):
    def test_all_functions(self):
        for ground in each_ground():
            for asked, *handed in askings(ground):
                check_asking(self, asked, *handed)

    def test_all_functions_are_asked(self):
        asked = {one[0].__name__ for one in askings(Ground(2, 2))}
        every = {name for names in FUNCTIONS.values() for name in names.split()}
        self.assertEqual(every - asked, {"row_in"})

    def test_rows_of_trees(self):
        ground = Ground(2, 3)
        named = {"ab": [1, 2, 3, 4, 5]}
        for time in range(2):
            told = row_in(ground, read_tree("ab [a, ab]"), named)
            self.assertEqual(told, row_in(ground, read_tree("ab [a, ab]"), {"ab": (1, 2, 3, 4, 5)}))
            self.assertEqual(named, {"ab": [1, 2, 3, 4, 5]})

    def test_told_lists_of_objects(self):
        book = Book(Ground(2, 2))
        book.let("aa", "a")
        book.let("bb", "aa zz")
        put = Put(Ground(2, 2), Ground(2, 2), [[1, 1, 0], [0, 1, 5]])
        for answers, thing in (
            (ground_answers, Ground(2, 3)), (rules_answers, Rules(Ground(2, 3))), (put_answers, put),
            (book_answers, book),
        ):
            first, second = answers(thing), answers(thing)
            kept = kinds_in(first)
            every = lists_in(first) + lists_in(second)
            self.assertEqual(len({id(one) for one in every}), len(every))
            for one in lists_in(first):
                one.append("changed")
            self.assertEqual(kinds_in(second), kept)
            self.assertEqual(kinds_in(answers(thing)), kept)


class ByTurns(unittest.TestCase):
    def check_by_turns(self, answers, makers):
        """Objects asked one behind the other tell what they tell alone."""
        alone = [answers(maker()) for maker in makers]
        things = [maker() for maker in makers]
        for time in range(2):
            self.assertEqual([answers(thing) for thing in things], alone)
            things.reverse()
            self.assertEqual([answers(thing) for thing in things], alone[::-1])
            things.reverse()

    def test_grounds(self):
        self.check_by_turns(ground_answers, [lambda pair=pair: Ground(*pair) for pair in PAIRS])

    def test_rules(self):
        pairs = [(1, 3), (2, 2), (2, 3), (3, 2), (2, 2)]
        self.check_by_turns(rules_answers, [lambda pair=pair: Rules(Ground(*pair)) for pair in pairs])

    def test_puts(self):
        def maker(seed):
            ground = Ground(2, 3)
            return lambda: Put(ground, ground, made_rows(ground, 9, 2, seed))
        self.check_by_turns(put_answers, [maker(seed) for seed in range(4)])

    def test_books(self):
        ground = Ground(2, 2)

        def maker(text):
            def made():
                book = Book(ground)
                book.let("aa", text)
                book.let("bb", "[aa, b] aa")
                return book
            return made
        self.check_by_turns(book_answers, [maker(text) for text in ("a", "b^3", "zz", "a b")])


class Alike(unittest.TestCase):
    def test_words_are_alike_just_where_their_rows_are(self):
        kinds = set()
        for ground in each_ground():
            words = few_words(ground)
            words += [joined(word, deep) for word, deep in zip(words, deep_words(ground))]
            rows = [row_of(ground, word) for word in words]
            sums = [scattered(ground, word) for word in words]
            for one in range(len(words)):
                for other in range(one):
                    alike = sums[one] == sums[other]
                    self.assertIs(rows[one] == rows[other], alike)
                    self.assertIs(unlike_at(ground, words[one], words[other]) is None, alike)
                    kinds.add(alike)
        self.assertEqual(kinds, {True, False})

    def test_the_row_s_own_word(self):
        for ground in each_ground():
            for word in few_words(ground)[:10]:
                row = row_of(ground, word)
                self.assertEqual(row_by(ground, scattered(ground, word)), row)
                try:
                    own = spelled(ground, row)
                except errors.TooLong:
                    continue
                self.assertIsNone(unlike_at(ground, word, own))


class Deep(unittest.TestCase):
    def test_in_words(self):
        source = random.Random("deep words")
        for ground in each_ground():
            word = made_words(ground.letters(), [8], "deep")[0]
            for deep in deep_words(ground)[::3]:
                at = source.randrange(9)
                with_deep = word[:at] + deep + word[at:]
                self.assertEqual(scattered(ground, with_deep), scattered(ground, word))
                self.assertEqual(row_of(ground, with_deep), row_of(ground, word))
                self.assertIsNone(unlike_at(ground, with_deep, word))

    def test_in_rows(self):
        for ground in each_ground():
            for rows in (made_rows(ground, 99, ground.depth() + 1, "deep rows"), letter_rows(ground) * 6):
                deep = rows[0]
                for row in rows[1:ground.depth() + 1]:
                    deep = rows_bracketed(ground, deep, row)
                self.assertEqual(deep, nothing(ground))

    def test_in_texts_and_formulas(self):
        for ground in each_ground():
            word = made_words(ground.letters(), [6], "deep texts")[0]
            deep = sign_text((1,))
            for time in range(ground.depth()):
                deep = f"[{deep}, {sign_text(word[:2])}]"
            text = f"{sign_text(word[:3])} ({deep})^7 {sign_text(word[3:])}"
            self.assertEqual(row_in(ground, read_tree(text), {}), row_of(ground, word))
            book = Book(ground)
            book.let("deep", deep)
            book.let("word", sign_text(word))
            book.let("both", f"{sign_text(word[:3])} deep^-5 {sign_text(word[3:])}")
            self.assertEqual(book.row("deep"), nothing(ground))
            self.assertEqual(book.row("both"), book.row("word"))
            rows = [f"ground {ground.letters()} {ground.depth()}", f"let xx = {text}", f"let yy = {sign_text(word)}"]
            self.assertEqual(run("\n".join(rows + ["same xx yy"]))[-1], "same")

    def test_in_letters_put_in(self):
        for ground in each_ground():
            put = Put(ground, ground, made_rows(ground, 9, ground.letters(), "deep put"))
            word = made_words(ground.letters(), [6], "deep put")[0]
            for deep in deep_words(ground)[::5]:
                self.assertEqual(put.put_word(word[:2] + deep + word[2:]), put.put_word(word))


class Refusals(unittest.TestCase):
    def test_each_is_of_its_own_class_alone(self):
        ground = Ground(2, 2)
        book = Book(ground)
        book.let("xx", "(" * 20 + "a" + "^999999999)" * 20)
        book.let("yy", "((xx^999999999)^999999999)^999999999")
        due = [
            (errors.NoGround, Ground, 5, 5), (errors.NoPlace, ground.place_of, (2, 1)),
            (errors.TooLong, spelled, ground, (601, 0, 0)), (errors.NoRules, Rules, Ground(2, 5)),
            (errors.NoPut, Put, ground, ground, []), (errors.BadText, read_tree, "["),
            (errors.NoLetter, row_in, ground, read_tree("c"), {}), (errors.NoName, row_in, ground, read_tree("zz"), {}),
            (errors.TooGreat, row_in, ground, read_tree("zz"), {"zz": (10 ** 200, 0, 0)}),
            (errors.TooGreat, book.row, "yy"), (errors.BadName, book.let, "a", "a"), (errors.Ring, book.let, "zz", "zz"),
            (errors.BadRow, run, ""),
        ]
        kinds = {one for one in vars(errors).values() if inspect.isclass(one) and one is not errors.BracketError}
        self.assertEqual({refusal for refusal, *rest in due}, kinds)
        for refusal, asked, *handed in due:
            with self.assertRaises(ValueError) as caught:
                asked(*handed)
            self.assertEqual([kind for kind in kinds if isinstance(caught.exception, kind)], [refusal])
            self.assertIsInstance(caught.exception, errors.BracketError)

    def test_all_is_as_ahead_behind_a_refusal(self):
        ground = Ground(2, 2)
        answers = ground_answers(ground)
        with self.assertRaises(errors.NoPlace):
            ground.place_of([2, 1])
        self.assertEqual(ground_answers(ground), answers)
        row, word = [601, 0, 0], [2, 1]
        with self.assertRaises(errors.TooLong):
            spelled(ground, row)
        with self.assertRaises(errors.NoPlace):
            ground.place_of(word)
        self.assertEqual((row, word), ([601, 0, 0], [2, 1]))


if __name__ == "__main__":
    unittest.main()

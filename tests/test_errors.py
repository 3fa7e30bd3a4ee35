"""errors.py, and what [2] says of the refusals' classes."""

import unittest

from bracketwords import errors
from bracketwords.errors import BracketError

WITHOUT_FIELD = ("NoGround", "NoPlace", "TooLong", "NoRules", "NoPut", "TooGreat", "BadName")
FIELDS = (
    ("BadText", "at", 3),
    ("BadText", "at", 0),
    ("NoLetter", "letter", 4),
    ("NoName", "name", "foot"),
    ("Ring", "ring", ["foot", "leg", "foot"]),
    ("BadRow", "line", 7),
)


def refusals():
    names = list(WITHOUT_FIELD) + [name for name, field, worth in FIELDS]
    return [getattr(errors, name) for name in names]


class Classes(unittest.TestCase):
    def test_bracket_error_stands_under_value_error(self):
        self.assertEqual(BracketError.__bases__, (ValueError,))

    def test_each_stands_straight_under_bracket_error(self):
        for refusal in refusals():
            self.assertEqual(refusal.__bases__, (BracketError,), refusal)

    def test_none_is_another_one(self):
        self.assertEqual(len(set(refusals())), 12)
        for refusal in refusals():
            self.assertEqual([other for other in set(refusals()) if issubclass(refusal, other)], [refusal])


class Making(unittest.TestCase):
    def test_with_words_alone(self):
        for name in WITHOUT_FIELD:
            with self.assertRaises(BracketError) as caught:
                raise getattr(errors, name)("some words")
            self.assertEqual(str(caught.exception), "some words")
            self.assertEqual(vars(caught.exception), {})

    def test_with_its_field_behind(self):
        for name, field, worth in FIELDS:
            with self.assertRaises(BracketError) as caught:
                raise getattr(errors, name)("some words", worth)
            self.assertEqual(getattr(caught.exception, field), worth)
            self.assertEqual(list(vars(caught.exception)), [field])
            self.assertEqual(str(caught.exception), "some words")

    def test_ring_keeps_no_list_that_is_handed_in(self):
        names = ["foot", "foot"]
        refusal = errors.Ring("some words", names)
        names.append("leg")
        self.assertEqual(refusal.ring, ["foot", "foot"])
        self.assertEqual(errors.Ring("some words", ("foot", "foot")).ring, ["foot", "foot"])


if __name__ == "__main__":
    unittest.main()

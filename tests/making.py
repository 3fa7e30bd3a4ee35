"""What the tests share: words made by a fixed seed, and what point [2] asks of every function."""

import random

from bracketwords.errors import BracketError
from bracketwords.grounds import Ground
from bracketwords.words import bracketed

# The letters and the depth of every ground that there is.
PAIRS = [
    (1, 1), (1, 2), (1, 3), (1, 4), (1, 5),
    (2, 1), (2, 2), (2, 3), (2, 4), (2, 5),
    (3, 1), (3, 2), (3, 3), (3, 4),
    (4, 1), (4, 2), (4, 3),
]


def each_ground():
    """Every ground that there is."""
    return [Ground(letters, depth) for letters, depth in PAIRS]


def made_words(letters, sizes, seed):
    """For each size a word of the letters and their backs, always the same for the same seed."""
    source = random.Random(seed)
    steps = [sign * letter for letter in range(1, letters + 1) for sign in (1, -1)]
    return [tuple(source.choice(steps) for step in range(size)) for size in sizes]


def made_plain_words(letters, sizes, seed):
    """The same without backs."""
    return [tuple(abs(step) for step in word) for word in made_words(letters, sizes, seed)]


def few_words(ground):
    """Short words on the ground, with and without backs."""
    letters = ground.letters()
    every = [step for letter in range(1, letters + 1) for step in (letter, -letter)]
    return (
        [(), (1,), (-1,), (-letters,), (1, -1), (-1, 1), (1, 1), (-1, -1), tuple(every)]
        + made_words(letters, [2, 3, 4, 5, 7, 9, 12], "few")
        + made_plain_words(letters, [2, 3, 5, 8], "few plain")
    )


def all_shapes(leaves):
    """The brackets of the words in order, in every shape."""
    if len(leaves) == 1:
        return [leaves[0]]
    return [
        bracketed(one, other)
        for at in range(1, len(leaves))
        for one in all_shapes(leaves[:at])
        for other in all_shapes(leaves[at:])
    ]


def empty_sums(ground):
    """The sums of the empty word."""
    return [1 if word == () else 0 for word in ground.words()]


def made_rows(ground, size, many, seed):
    """So many rows of the ground, of numbers up to the size, of either sign, with noughts among them."""
    source = random.Random(seed)
    rows = []
    for time in range(many):
        row = [source.randint(-size, size) for place in range(ground.places())]
        # Every other row has noughts, so that rows of all kinds of deepness come about.
        if time % 2 == 1:
            row = [number if source.randrange(3) == 0 else 0 for number in row]
        rows.append(tuple(row))
    return rows


def deep_row(ground, size, least, seed):
    """A row of the ground of just that deepness, with numbers up to the size, none of them 0."""
    source = random.Random(seed)
    return tuple(
        source.choice((1, -1)) * source.randint(1, size) if ground.size_at(place) >= least else 0
        for place in range(ground.places())
    )


def is_row(ground, told):
    """Whether it is a tuple of as many whole numbers as the ground has places."""
    return is_word(told) and len(told) == ground.places()


def is_word(told):
    """Whether it is a tuple of whole numbers, none of them True or False."""
    return isinstance(told, tuple) and all(is_number(step) for step in told)


def is_number(told):
    return isinstance(told, int) and not isinstance(told, bool)


def check_refused(case, refusal, asked, *handed):
    """It is refused with just that class, and what is handed in stays."""
    kept = [list(one) if isinstance(one, list) else one for one in handed]
    with case.assertRaises(BracketError) as caught:
        asked(*handed)
    case.assertIs(type(caught.exception), refusal)
    case.assertEqual(list(handed), kept)


def check_handing(case, asked, *handed):
    """Tuples and lists tell the same, and a list that is handed in stays as it was."""
    told = asked(*handed)
    lists = [list(one) if isinstance(one, tuple) else one for one in handed]
    kept = [list(one) if isinstance(one, list) else one for one in lists]
    case.assertEqual(told, asked(*lists))
    case.assertEqual(lists, kept)
    for one, copy in zip(lists, kept):
        case.assertIs(type(one), type(copy))
    return told


def check_own_list(case, asked, *handed):
    """A told list is new each time, and a change of it changes no later answer."""
    first = asked(*handed)
    second = asked(*handed)
    case.assertIs(type(first), list)
    case.assertIs(type(second), list)
    case.assertIsNot(first, second)
    for one in handed:
        case.assertIsNot(first, one)
    kept = list(first)
    first.append("changed")
    first.reverse()
    case.assertEqual(second, kept)
    case.assertEqual(asked(*handed), kept)
    return kept

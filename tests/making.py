"""What the tests share: words made by a fixed seed, and what point [2] asks of every function."""

import random

# The letters and the depth of every ground that there is.
PAIRS = [
    (1, 1), (1, 2), (1, 3), (1, 4), (1, 5),
    (2, 1), (2, 2), (2, 3), (2, 4), (2, 5),
    (3, 1), (3, 2), (3, 3), (3, 4),
    (4, 1), (4, 2), (4, 3),
]


def made_words(letters, sizes, seed):
    """For each size a word of the letters and their backs, always the same for the same seed."""
    source = random.Random(seed)
    steps = [sign * letter for letter in range(1, letters + 1) for sign in (1, -1)]
    return [tuple(source.choice(steps) for step in range(size)) for size in sizes]


def made_plain_words(letters, sizes, seed):
    """The same without backs."""
    return [tuple(abs(step) for step in word) for word in made_words(letters, sizes, seed)]


def is_word(told):
    """Whether it is a tuple of whole numbers, none of them True or False."""
    return isinstance(told, tuple) and all(is_number(step) for step in told)


def is_number(told):
    return isinstance(told, int) and not isinstance(told, bool)


def check_handing(case, asked, *handed):
    """Tuples and lists tell the same, and a list that is handed in stays as it was."""
    told = asked(*handed)
    lists = [list(one) if isinstance(one, tuple) else one for one in handed]
    kept = [list(one) if isinstance(one, list) else one for one in lists]
    case.assertEqual(told, asked(*lists))
    case.assertEqual(lists, kept)
    for one, copy in zip(lists, kept):
        case.assertIs(type(one), type(copy))
    return told


def check_own_list(case, asked, *handed):
    """A told list is new each time, and a change of it changes no later answer."""
    first = asked(*handed)
    second = asked(*handed)
    case.assertIs(type(first), list)
    case.assertIs(type(second), list)
    case.assertIsNot(first, second)
    for one in handed:
        case.assertIsNot(first, one)
    kept = list(first)
    first.append("changed")
    first.reverse()
    case.assertEqual(second, kept)
    case.assertEqual(asked(*handed), kept)
    return kept

"""What the tests share: words made by a fixed seed, and what point [2] asks of every function."""

import random

from bracketwords.errors import BracketError
from bracketwords.grounds import Ground
from bracketwords.words import bracketed

# The letters and the depth of every ground that there is.
PAIRS = [
    (1, 1), (1, 2), (1, 3), (1, 4), (1, 5),
    (2, 1), (2, 2), (2, 3), (2, 4), (2, 5),
    (3, 1), (3, 2), (3, 3), (3, 4),
    (4, 1), (4, 2), (4, 3),
]


def each_ground():
    """Every ground that there is."""
    return [Ground(letters, depth) for letters, depth in PAIRS]


def made_words(letters, sizes, seed):
    """For each size a word of the letters and their backs, always the same for the same seed."""
    source = random.Random(seed)
    steps = [sign * letter for letter in range(1, letters + 1) for sign in (1, -1)]
    return [tuple(source.choice(steps) for step in range(size)) for size in sizes]


def made_plain_words(letters, sizes, seed):
    """The same without backs."""
    return [tuple(abs(step) for step in word) for word in made_words(letters, sizes, seed)]


def few_words(ground):
    """Short words on the ground, with and without backs."""
    letters = ground.letters()
    every = [step for letter in range(1, letters + 1) for step in (letter, -letter)]
    return (
        [(), (1,), (-1,), (-letters,), (1, -1), (-1, 1), (1, 1), (-1, -1), tuple(every)]
        + made_words(letters, [2, 3, 4, 5, 7, 9, 12], "few")
        + made_plain_words(letters, [2, 3, 5, 8], "few plain")
    )


def all_shapes(leaves):
    """The brackets of the words in order, in every shape."""
    if len(leaves) == 1:
        return [leaves[0]]
    return [
        bracketed(one, other)
        for at in range(1, len(leaves))
        for one in all_shapes(leaves[:at])
        for other in all_shapes(leaves[at:])
    ]


def empty_sums(ground):
    """The sums of the empty word."""
    return [1 if word == () else 0 for word in ground.words()]


def made_rows(ground, size, many, seed):
    """So many rows of the ground, of numbers up to the size, of either sign, with noughts among them."""
    source = random.Random(seed)
    rows = []
    for time in range(many):
        row = [source.randint(-size, size) for place in range(ground.places())]
        # Every other row has noughts, so that rows of all kinds of deepness come about.
        if time % 2 == 1:
            row = [number if source.randrange(3) == 0 else 0 for number in row]
        rows.append(tuple(row))
    return rows


def deep_row(ground, size, least, seed):
    """A row of the ground of just that deepness, with numbers up to the size, none of them 0."""
    source = random.Random(seed)
    return tuple(
        source.choice((1, -1)) * source.randint(1, size) if ground.size_at(place) >= least else 0
        for place in range(ground.places())
    )


def is_row(ground, told):
    """Whether it is a tuple of as many whole numbers as the ground has places."""
    return is_word(told) and len(told) == ground.places()


def is_word(told):
    """Whether it is a tuple of whole numbers, none of them True or False."""
    return isinstance(told, tuple) and all(is_number(step) for step in told)


def is_number(told):
    return isinstance(told, int) and not isinstance(told, bool)


def check_refused(case, refusal, asked, *handed):
    """It is refused with just that class, and what is handed in stays."""
    kept = [list(one) if isinstance(one, list) else one for one in handed]
    with case.assertRaises(BracketError) as caught:
        asked(*handed)
    case.assertIs(type(caught.exception), refusal)
    case.assertEqual(list(handed), kept)


def check_handing(case, asked, *handed):
    """Tuples and lists tell the same, and a list that is handed in stays as it was."""
    told = asked(*handed)
    lists = [list(one) if isinstance(one, tuple) else one for one in handed]
    kept = [list(one) if isinstance(one, list) else one for one in lists]
    case.assertEqual(told, asked(*lists))
    case.assertEqual(lists, kept)
    for one, copy in zip(lists, kept):
        case.assertIs(type(one), type(copy))
    return told


def check_own_list(case, asked, *handed):
    """A told list is new each time, and a change of it changes no later answer."""
    first = asked(*handed)
    second = asked(*handed)
    case.assertIs(type(first), list)
    case.assertIs(type(second), list)
    case.assertIsNot(first, second)
    for one in handed:
        case.assertIsNot(first, one)
    kept = list(first)
    first.append("changed")
    first.reverse()
    case.assertEqual(second, kept)
    case.assertEqual(asked(*handed), kept)
    return kept


def as_lists(thing):
    """The same with a list in the place of each tuple, at any depth."""
    return [as_lists(one) for one in thing] if isinstance(thing, (tuple, list)) else thing


def as_tuples(thing):
    """The same with a tuple in the place of each list, at any depth."""
    return tuple(as_tuples(one) for one in thing) if isinstance(thing, (tuple, list)) else thing


def lists_in(thing):
    """All lists in it, at any depth, itself too where it is one."""
    found = [thing] if isinstance(thing, list) else []
    if isinstance(thing, (tuple, list)):
        for one in thing:
            found.extend(lists_in(one))
    return found


def kinds_in(thing):
    """The same thing with each of its tuples and lists named, so that a list is not taken for a tuple."""
    if isinstance(thing, (tuple, list)):
        return (type(thing).__name__, [kinds_in(one) for one in thing])
    return (type(thing).__name__, thing)


def check_asking(case, asked, *handed):
    """What point [2] asks: tells the answer, after lists, tuples and both were handed in, and the told was changed."""
    told = asked(*handed)
    kept = kinds_in(told)
    for shape in (as_lists, as_tuples, lists_of_tuples):
        given = [shape(one) for one in handed]
        before = kinds_in(given)
        first, second = asked(*given), asked(*given)
        case.assertEqual(kinds_in(first), kept)
        case.assertEqual(kinds_in(given), before)
        every = lists_in(first) + lists_in(second)
        every += [one for thing in given for one in lists_in(thing)]
        case.assertEqual(len({id(one) for one in every}), len(every))
        for one in lists_in(first):
            one.append("changed")
            one.reverse()
        case.assertEqual(kinds_in(second), kept)
        case.assertEqual(kinds_in(given), before)
        case.assertEqual(kinds_in(asked(*given)), kept)
    return told


def lists_of_tuples(thing):
    """Lists outside, tuples in them."""
    return [as_tuples(one) for one in thing] if isinstance(thing, (tuple, list)) else thing


def drawn_group(ground, source, most=4):
    """Rows that make a group: none to so many, of numbers up to 99, begun with noughts now and then."""
    rows = []
    for time in range(source.randrange(most + 1)):
        if rows and source.randrange(5) == 0:
            rows.append(source.choice(rows))
            continue
        size = source.choice((1, 3, 12, 99))
        row = [source.randint(-size, size) for place in range(ground.places())]
        for place in range(source.choice((0, 0, 1, source.randrange(ground.places() + 1)))):
            row[place] = 0
        rows.append(tuple(row))
    return rows


def small_grounds():
    """Every ground of at most 8 places."""
    return [ground for ground in each_ground() if ground.places() <= 8]

"""Rows: a number for each place of a ground, which stand for the powers of the places' brackets."""

from bracketwords.errors import TooLong
from bracketwords.sums import empty_sums, powers_chosen, scattered, sums_joined
from bracketwords.words import joined, repeated

# A row whose word has more steps than these is not spelled.
MOST_STEPS = 600


def row_of(ground, word):
    """The row whose word is alike to the word."""
    return row_by(ground, scattered(ground, word))


def sums_of(ground, row):
    """The sums of the row's word."""
    told = empty_sums(ground)
    for place, n in enumerate(row):
        if n != 0:
            told = sums_joined(ground, told, power_sums(ground, place, n))
    return told


def row_by(ground, sums):
    """The row that has these sums; None where there is none."""
    rest = list(sums)
    row = []
    for place, number in enumerate(ground.standings()):
        # The least word of the places' brackets from here on is this turnword, which this place's bracket
        # has once and no later one has, so its sum is the place's number.
        n = rest[number]
        row.append(n)
        if n != 0:
            rest = sums_joined(ground, power_sums(ground, place, -n), rest)
    return tuple(row) if rest == empty_sums(ground) else None


def power_sums(ground, place, n):
    """The sums of the place's bracket repeated n times."""
    return powers_chosen(ground.bracket_powers(place), n)


def spelled(ground, row):
    """The row's word itself."""
    brackets = [ground.bracket_at(place) for place in range(ground.places())]
    # Counted ahead, as the word may be too long to be made at all.
    if sum([abs(n) * len(bracket) for n, bracket in zip(row, brackets)]) > MOST_STEPS:
        raise TooLong("the row's word has more than 600 steps")
    word = ()
    for n, bracket in zip(row, brackets):
        word = joined(word, repeated(bracket, n))
    return word


def unlike_at(ground, one, other):
    """The first place at which the words' rows are unlike, with its turnword; None of alike words."""
    for word, first, second in zip(ground.words(), scattered(ground, one), scattered(ground, other)):
        if first != second:
            # Rows that are alike ahead of a place first differ, in their sums, at that place's turnword.
            return (ground.place_of(word), word)
    return None

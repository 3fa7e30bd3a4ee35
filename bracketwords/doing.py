"""Doing: rows joined, backed, raised and bracketed, as their words are."""

from bracketwords.rows import row_by, sums_of
from bracketwords.sums import sums_backed, sums_bracketed, sums_joined, sums_repeated


def nothing(ground):
    """The row of noughts."""
    return (0,) * ground.places()


def place_row(ground, place):
    """The row of the place's bracket alone."""
    return tuple([1 if at == place else 0 for at in range(ground.places())])


def letter_rows(ground):
    """The list of the rows of the ground's letters."""
    return [place_row(ground, place) for place in range(ground.letters())]


def rows_joined(ground, one, other):
    """The row of both rows' words, joined."""
    return row_by(ground, sums_joined(ground, sums_of(ground, one), sums_of(ground, other)))


def row_backed(ground, row):
    """The row of the row's word, backed."""
    return row_raised(ground, row, -1)


def row_raised(ground, row, n):
    """The row of the row's word, repeated any number of times."""
    return row_by(ground, sums_repeated(ground, sums_of(ground, row), n))


def rows_bracketed(ground, one, other):
    """The row of the bracket of both rows' words."""
    return row_by(ground, sums_bracketed(ground, sums_of(ground, one), sums_of(ground, other)))


def row_turned(ground, row, other):
    """The row of other backed, row, other."""
    turner = sums_of(ground, other)
    turned = sums_joined(ground, sums_of(ground, row), turner)
    return row_by(ground, sums_joined(ground, sums_backed(ground, turner), turned))


def deepness(ground, row):
    """The least size of the places with a number other than 0; depth + 1 where there are none."""
    sizes = [ground.size_at(place) for place, n in enumerate(row) if n != 0]
    return min(sizes, default=ground.depth() + 1)


def shallower(ground, row, depth):
    """The row that the row's word has on the ground of as many letters and that depth."""
    return tuple([n for place, n in enumerate(row) if ground.size_at(place) <= depth])

"""Going together: which rows can be exchanged when they are joined."""

from bracketwords.doing import deepness, nothing, row_raised, rows_joined, shallower
from bracketwords.grounds import Ground
from bracketwords.roots import most_root
from bracketwords.rows import sums_of
from bracketwords.sums import sums_joined


def go_together(ground, one, other):
    """Whether both rows, joined, are the same either way about."""
    first, second = sums_of(ground, one), sums_of(ground, other)
    return sums_joined(ground, first, second) == sums_joined(ground, second, first)


def companions(ground, row):
    """The pair (y, size): what goes with the row is powers of y joined with rows of that deepness or more."""
    least = deepness(ground, row)
    if least > ground.depth():
        return (nothing(ground), 1)
    size = ground.depth() + 1 - least
    if size <= least:
        return (nothing(ground), size)
    depth = size - 1
    y = most_root(Ground(ground.letters(), depth), shallower(ground, row, depth))[0]
    return (y + nothing(ground)[len(y):], size)


def companion_parts(ground, row, other):
    """The pair (n, rest) such that other is companions' y raised by n, joined with rest; None where there is none."""
    if not go_together(ground, row, other):
        return None
    y, size = companions(ground, row)
    n = 0
    for place, number in enumerate(y):
        if number != 0:
            # At the first number of y nothing else counts: rest has only deeper ones.
            n = other[place] // number
            break
    return (n, rows_joined(ground, row_raised(ground, y, -n), other))

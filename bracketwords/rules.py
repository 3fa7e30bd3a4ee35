"""Rules of choices: how the numbers of joined and raised rows come, for all whole numbers."""

from bracketwords.choices import chosen
from bracketwords.doing import row_raised, rows_joined
from bracketwords.errors import NoRules
from bracketwords.grounds import Ground

MOST_DEPTH = 4
MOST_PLACES = 14


class Rules:
    """The terms of choices by which rows of a ground are joined and raised, found out once."""

    def __init__(self, ground):
        if ground.depth() > MOST_DEPTH or ground.places() > MOST_PLACES:
            raise NoRules("the ground is too deep, or has too many places")
        self.letter_count = ground.letters()
        self.deepest = ground.depth()
        self.joining = all_joined_terms(ground)
        self.raising = all_raised_terms(ground)

    def joined_terms(self, place):
        """The rising list of terms (picks, times) for the place's number of joined rows."""
        return list(self.joining[place])

    def raised_terms(self, place):
        """The rising list of terms (picks, times, j) for the place's number of a raised row."""
        return list(self.raising[place])

    def rules_joined(self, x, y):
        """The row of both rows joined, by the terms."""
        sides = (x, y)
        return tuple([
            sum([
                times * product_chosen([(sides[side][place], k) for side, place, k in picks])
                for picks, times in terms
            ])
            for terms in self.joining
        ])

    def rules_raised(self, x, n):
        """The row raised by n, by the terms."""
        return tuple([
            sum([
                times * chosen(n, j) * product_chosen([(x[place], k) for place, k in picks])
                for picks, times, j in terms
            ])
            for terms in self.raising
        ])

    def rules_backed(self, x):
        """The row backed, by the terms."""
        return self.rules_raised(x, -1)

    def ground(self):
        """A Ground of the same letters and depth."""
        return Ground(self.letter_count, self.deepest)


def product_chosen(choices):
    """The product of chosen(number, k) over the pairs (number, k)."""
    product = 1
    for number, k in choices:
        product *= chosen(number, k)
    return product


def all_joined_terms(ground):
    """For each place its terms (picks, times), rising, with triples (side, place, k) in picks."""
    many = ground.places()
    worths = {}
    # A number that stands at a place of some size counts only for sums of words of that size or more, so picks
    # beyond the depth never count. The numbers of both rows stand in one row here, those of y behind those of x.
    for picks in picks_up_to(place_sizes(ground) * 2, ground.depth()):
        both = picked_numbers(picks, many * 2)
        worths[picks] = rows_joined(ground, both[:many], both[many:])
    found = differences(worths)
    told = {tuple([(at // many, at % many, k) for at, k in picks]): found[picks] for picks in found}
    return [
        sorted([(picks, told[picks][place]) for picks in told if told[picks][place] != 0])
        for place in range(many)
    ]


def all_raised_terms(ground):
    """For each place its terms (picks, times, j), rising, with pairs (place, k) in picks."""
    many = ground.places()
    worths = {}
    for picks in picks_up_to(place_sizes(ground), ground.depth()):
        row = picked_numbers(picks, many)
        # The power stands behind the places, as if it were one more number of the row; as nothing of a word is
        # left when it is joined more often than the depth, picks of it beyond the depth never count either.
        for n in range(ground.depth() + 1):
            worths[with_pick(picks, many, n)] = row_raised(ground, row, n)
    found = differences(worths)
    # Where nothing is raised, or by 0, nothing comes of it; so what is left has a pick of the power, the last one.
    return [
        sorted([
            (picks[:-1], found[picks][place], picks[-1][1])
            for picks in found if found[picks][place] != 0
        ])
        for place in range(many)
    ]


def place_sizes(ground):
    """The list of the sizes of all places."""
    return [ground.size_at(place) for place in range(ground.places())]


def picks_up_to(sizes, most):
    """All picks, rising tuples of pairs (at, k), whose sizes, each times its k, are together at most most."""
    found = [((), most)]
    for at, size in enumerate(sizes):
        found = [
            (with_pick(picks, at, k), left - k * size)
            for picks, left in found for k in range(left // size + 1)
        ]
    return [picks for picks, left in found]


def with_pick(picks, at, k):
    """The picks with (at, k) behind; the same picks where k is 0."""
    return picks + ((at, k),) if k > 0 else picks


def picked_numbers(picks, many):
    """So many numbers: k at each place that is picked, 0 elsewhere."""
    numbers = [0 for at in range(many)]
    for at, k in picks:
        numbers[at] = k
    return numbers


def differences(worths):
    """For each picks the row of times by which they count in the sums that the worths are.

    The worth at picks is the sum of times times chosen(k, j), over all picks of lesser or equal numbers j.
    This is undone as it is for one number, by choices with changing signs.
    """
    found = {}
    for picks in worths:
        row = [0 for number in worths[picks]]
        for lesser, times in lesser_picks(picks):
            row = [number + times * more for number, more in zip(row, worths[lesser])]
        found[picks] = row
    return found


def lesser_picks(picks):
    """All picks of lesser or equal numbers, each with the times by which it counts in a difference."""
    found = [((), 1)]
    for at, k in picks:
        found = [
            (with_pick(lesser, at, j), times * chosen(k, j) * chosen(-1, k - j))
            for lesser, times in found for j in range(k + 1)
        ]
    return found

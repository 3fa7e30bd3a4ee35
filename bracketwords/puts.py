"""Letters put in: rows of a goal in the place of a ground's letters, and that undone."""

from bracketwords.doing import letter_rows, nothing, row_backed, rows_joined
from bracketwords.errors import NoPut
from bracketwords.rows import row_by, sums_of
from bracketwords.rules import MOST_DEPTH, MOST_PLACES
from bracketwords.sums import empty_sums, sums_backed, sums_bracketed, sums_joined, sums_repeated


class Put:
    """A row of the goal for each letter of the ground, in order."""

    def __init__(self, ground, goal, rows):
        if len(rows) != ground.letters():
            raise NoPut("there is not one row for each letter")
        if goal.depth() > ground.depth():
            # A bracket that counts as nothing on the ground would count on the goal.
            raise NoPut("the goal is deeper than the ground")
        self.start = ground
        self.goal = goal
        self.put_in = tuple([tuple(row) for row in rows])
        # Words and rows ask for these again and again, so they are reckoned here once.
        self.place_sums = bracket_sums(ground, goal, self.put_in)

    def put_word(self, word):
        """The row of the goal that the word of the ground becomes."""
        told = empty_sums(self.goal)
        for step in word:
            sums = self.place_sums[abs(step) - 1]
            told = sums_joined(self.goal, told, sums if step > 0 else sums_backed(self.goal, sums))
        return row_by(self.goal, told)

    def put_row(self, row):
        """The row of the goal that the row's word becomes."""
        told = empty_sums(self.goal)
        for place, n in enumerate(row):
            if n != 0:
                told = sums_joined(self.goal, told, sums_repeated(self.goal, self.place_sums[place], n))
        return row_by(self.goal, told)

    def rows(self):
        """The list of the rows that are put in for the letters."""
        return list(self.put_in)

    def put_place(self, place):
        """The row of the goal that the place's bracket becomes."""
        return row_by(self.goal, self.place_sums[place])

    def behind(self, other):
        """The Put that does first the other one, then this one."""
        if not are_same(other.goal, self.start):
            raise NoPut("the other one's goal is not this one's ground")
        return Put(other.start, self.goal, [self.put_row(row) for row in other.put_in])

    def numbers(self):
        """For each letter the tuple of the numbers of its row at the goal's letters."""
        return [row[:self.goal.letters()] for row in self.put_in]

    def turning(self):
        """The determinant of the numbers."""
        return determinant(self.numbers())

    def undone(self):
        """The Put by which, behind this one and ahead of it, each letter is itself again."""
        if not are_same(self.start, self.goal):
            raise NoPut("the goal has not the ground's letters and depth")
        if self.goal.depth() > MOST_DEPTH or self.goal.places() > MOST_PLACES:
            raise NoPut("the ground is too deep, or has too many places")
        if abs(self.turning()) != 1:
            raise NoPut("the numbers' turning is neither 1 nor -1")
        deeper = nothing(self.goal)[self.goal.letters():]
        first = Put(self.goal, self.goal, [row + deeper for row in inverse(self.numbers())])
        return first.behind(straightened(self.behind(first)))


def are_same(one, other):
    """Whether both grounds have the same letters and depth."""
    return one.letters() == other.letters() and one.depth() == other.depth()


def bracket_sums(ground, goal, rows):
    """For each place of the ground the sums, on the goal, of its bracket with the rows put in for the letters."""
    told = [sums_of(goal, row) for row in rows]
    for place in range(ground.letters(), ground.places()):
        parts = ground.parts_at(place)
        told.append(sums_bracketed(goal, told[parts[0]], told[parts[1]]))
    return told


def determinant(numbers):
    """The sum, over all orders, of the products of one number from each row, with the sign of the order."""
    if not numbers:
        return 1
    return sum([number * cofactor(numbers, 0, at) for at, number in enumerate(numbers[0])])


def cofactor(numbers, row, column):
    """The determinant without that row and column, with the sign of their place."""
    sign = 1 if (row + column) & 1 == 0 else -1
    return sign * determinant([
        line[:column] + line[column + 1:] for at, line in enumerate(numbers) if at != row
    ])


def inverse(numbers):
    """The rows of numbers that, multiplied with these, are the letters; the determinant is 1 or -1."""
    worth = determinant(numbers)
    places = list(range(len(numbers)))
    return [tuple([worth * cofactor(numbers, row, column) for row in places]) for column in places]


def straightened(put):
    """The Put that undoes one by which each letter is itself, but for deeper brackets."""
    ground = put.goal
    letters = letter_rows(ground)
    told = list(letters)
    for size in range(1, ground.depth()):
        # What is left over at the places of the least size is put in as it is, but for deeper brackets; so
        # taking it off once leaves only what is deeper.
        told = [
            rows_joined(ground, row, rows_joined(ground, row_backed(ground, put.put_row(row)), letter))
            for row, letter in zip(told, letters)
        ]
    return Put(ground, ground, told)

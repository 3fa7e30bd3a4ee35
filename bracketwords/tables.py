"""Tables of groups: rows that, raised and joined in order, are just all that comes of some rows."""

from bracketwords.doing import letter_rows, row_raised, row_turned, rows_bracketed, rows_joined
from bracketwords.papers import written


def table_of(ground, rows):
    """The table of the group that the rows make."""
    writer = written(ground, rows)
    return [row for told, row in zip(writer.lines, writer.reached) if told[0] == "table"]


def divided(ground, table, row):
    """("in", powers), by which the table's rows are the row, or ("out", place, rest) where it is not in the group."""
    numbered = {head_place(line): at for at, line in enumerate(table)}
    powers = [0 for line in table]
    rest = tuple(row)
    for place in range(ground.places()):
        if rest[place] == 0:
            continue
        if place not in numbered:
            return ("out", place, rest)
        at = numbered[place]
        n, left = divmod(rest[place], table[at][place])
        if left != 0:
            return ("out", place, rest)
        powers[at] = n
        rest = rows_joined(ground, row_raised(ground, table[at], -n), rest)
    return ("in", tuple(powers))


def is_table(ground, table):
    """Whether the rows are the table of some group."""
    # The powers of the rows, joined in order, are a group just where the brackets of the rows are among them.
    return is_lowered(table) and all([
        is_in(ground, table, rows_bracketed(ground, row, other))
        for at, other in enumerate(table) for row in table[:at]
    ])


def how_spread(ground, table):
    """The product of the heads, where each place has one, else None."""
    if len(table) < ground.places():
        return None
    told = 1
    for place, row in enumerate(table):
        told *= row[place]
    return told


def is_steady(ground, table):
    """Whether the group has all that row_turned tells of its rows."""
    # To turn by a letter's back is to undo the letter's turn. A group that a turn leads into itself is led onto
    # all of itself, as groups of rows cannot grow for ever; so the letters are enough.
    return all([
        is_in(ground, table, row_turned(ground, row, letter))
        for row in table for letter in letter_rows(ground)
    ])


def head_place(row):
    """The place of the row's first number other than 0; None where there is none."""
    for place, number in enumerate(row):
        if number != 0:
            return place
    return None


def is_lowered(table):
    """Whether heads above 0 stand at rising places, with numbers from 0 to the head less 1 above each."""
    last = -1
    for at, row in enumerate(table):
        place = head_place(row)
        if place is None or place <= last or row[place] < 0:
            return False
        if not all([0 <= ahead[place] < row[place] for ahead in table[:at]]):
            return False
        last = place
    return True


def is_in(ground, table, row):
    """Whether the row is in the table's group."""
    return divided(ground, table, row)[0] == "in"

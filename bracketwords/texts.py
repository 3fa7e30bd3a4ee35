"""Texts of rows: the row that a tree stands for, and the text of a row."""

from bracketwords.doing import nothing, place_row, row_raised, rows_bracketed, rows_joined
from bracketwords.errors import NoLetter, NoName, TooGreat
from bracketwords.trees import leaves, letter_text, pair_text

# A number of this size or more is too great to be told: a one with 200 noughts.
GREAT = (10 ** 50) ** 4


def row_in(ground, tree, named):
    """The row of the tree, with the rows of the names in it."""
    check_letters(ground, tree)
    for leaf in leaves(tree):
        if leaf[0] == "name" and leaf[1] not in named:
            raise NoName("a name has no row", leaf[1])
    return tree_row(ground, tree, named)


def check_letters(ground, tree):
    """Refuses a tree with a letter that is not on the ground."""
    for leaf in leaves(tree):
        if leaf[0] == "letter" and leaf[1] > ground.letters():
            raise NoLetter("a letter is not on the ground", leaf[1])


def tree_row(ground, tree, named):
    """The row of a tree whose letters and names are all there."""
    kind = tree[0]
    if kind == "items":
        return items_row(ground, [tree_row(ground, item, named) for item in tree[1]])
    if kind == "power":
        return checked(row_raised(ground, tree_row(ground, tree[1], named), tree[2]))
    if kind == "bracket":
        one, other = tree_row(ground, tree[1], named), tree_row(ground, tree[2], named)
        return checked(rows_bracketed(ground, one, other))
    if kind == "letter":
        return place_row(ground, tree[1] - 1)
    if kind == "name":
        return checked(tuple(named[tree[1]]))
    return nothing(ground)


def items_row(ground, rows):
    """The row of items, by the rows of each; no beginning of them may be too great."""
    told = rows[0]
    for row in rows[1:]:
        told = checked(rows_joined(ground, told, row))
    return told


def checked(row):
    """The same row; refused where a number of it is too great."""
    if any([abs(number) >= GREAT for number in row]):
        raise TooGreat("a number of the row is too great")
    return row


def row_text(ground, row):
    """The text of the row: the brackets of its places with their powers."""
    told = [
        power_text(bracket_text(ground, place), number)
        for place, number in enumerate(row) if number != 0
    ]
    return " ".join(told) if told else "1"


def power_text(text, number):
    """The text with its power, where that is not 1."""
    return text if number == 1 else f"{text}^{number}"


def bracket_text(ground, place):
    """The text of the place's bracket."""
    parts = ground.parts_at(place)
    if parts is None:
        return letter_text(ground.word_at(place)[0])
    return pair_text(bracket_text(ground, parts[0]), bracket_text(ground, parts[1]))

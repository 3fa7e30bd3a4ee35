"""A desk: rows of text that fill a book and ask of it, and their answers."""

from bracketwords.book import Book
from bracketwords.doing import rows_joined
from bracketwords.errors import BadRow, BadText, NoGround, NoLetter, NoName, NoPlace, Ring, TooGreat
from bracketwords.going import go_together
from bracketwords.grounds import Ground
from bracketwords.roots import root
from bracketwords.rows import sums_of
from bracketwords.texts import bracket_text, checked, row_text
from bracketwords.trees import FIGURES, LETTERS, MOST_FIGURES, is_name, letter_text, read_tree

MOST_LETTERS = 5
# How the words behind a row's first one are written; let, which has a text, is read by itself.
FORMS = {
    "drop": ("name",),
    "row": ("name",),
    "text": ("name",),
    "needs": ("name",),
    "sum": ("name", "letters"),
    "same": ("name", "name"),
    "join": ("name", "name"),
    "root": ("name", "count"),
    "goes": ("name", "name"),
}


def run(text):
    """The list of the answers to the rows of the text."""
    ground, asked = read_rows(text.split("\n"))
    book = Book(ground)
    return [answered(book, ground, words) for words in asked]


def read_rows(rows):
    """The pair of the ground and the list of the words of each row behind it; empty rows are passed over."""
    ground = None
    asked = []
    for line, row in enumerate(rows):
        if row == "":
            continue
        if ground is None:
            ground = read_ground(row)
            good = ground is not None
        else:
            words = read_row(row)
            good = words is not None
            asked.append(words)
        if not good:
            raise BadRow("the row is not written by the rules", line)
    if ground is None:
        raise BadRow("all rows are empty", len(rows))
    return (ground, asked)


def read_ground(row):
    """The ground of the first row; None where it is not written so."""
    words = row.split(" ")
    if len(words) != 3 or words[0] != "ground" or not is_figure(words[1]) or not is_figure(words[2]):
        return None
    try:
        return Ground(int(words[1]), int(words[2]))
    except NoGround:
        return None


def read_row(row):
    """The words of a row behind the first one; None where it is not written so."""
    if row.startswith("let "):
        return read_let(row)
    words = row.split(" ")
    if words[0] not in FORMS:
        return None
    forms = FORMS[words[0]]
    if len(words) != len(forms) + 1 or not all([is_formed(form, word) for form, word in zip(forms, words[1:])]):
        return None
    return words


def read_let(row):
    """The words of a row that begins with let: that, the name and the text."""
    name, equals, text = row[len("let "):].partition(" = ")
    if not is_name(name):
        return None
    try:
        read_tree(text)
    except BadText:
        return None
    return ["let", name, text]


def is_formed(form, word):
    """Whether the word is written in that form."""
    if form == "name":
        return is_name(word)
    if form == "letters":
        return is_letters(word)
    return is_count(word)


def is_figure(word):
    """Whether the word is one figure."""
    return len(word) == 1 and word in FIGURES


def is_letters(word):
    """Whether the word has one to five letters a to d."""
    return 1 <= len(word) <= MOST_LETTERS and all([sign in LETTERS for sign in word])


def is_count(word):
    """Whether the word is a number above 0, of at most nine figures."""
    return 1 <= len(word) <= MOST_FIGURES and word[0] != "0" and all([sign in FIGURES for sign in word])


def answered(book, ground, words):
    """The answer to a row, also where it is refused."""
    answer = ANSWERS[words[0]]
    try:
        return answer(book, ground, words)
    except NoName:
        return "refused NoName"
    except NoLetter:
        return "refused NoLetter"
    except Ring:
        return "refused Ring"
    except NoPlace:
        return "refused NoPlace"
    except TooGreat:
        return "refused TooGreat"


def answer_let(book, ground, words):
    """The answer of let."""
    book.let(words[1], words[2])
    return "done"


def answer_drop(book, ground, words):
    """The answer of drop."""
    book.drop(words[1])
    return "done"


def answer_row(book, ground, words):
    """The answer of row."""
    return row_text(ground, book.row(words[1]))


def answer_text(book, ground, words):
    """The answer of text."""
    return book.text_of(words[1])


def answer_needs(book, ground, words):
    """The answer of needs."""
    needed = book.needs(words[1])
    return " ".join(needed) if needed else "-"


def answer_sum(book, ground, words):
    """The answer of sum."""
    row = book.row(words[1])
    word = tuple([LETTERS.index(sign) + 1 for sign in words[2]])
    if word not in ground.words():
        raise NoPlace("the word is none of the ground's")
    told = sums_of(ground, row)[ground.words().index(word)]
    return str(checked((told,))[0])


def answer_same(book, ground, words):
    """The answer of same."""
    one, other = book.row(words[1]), book.row(words[2])
    for place, (first, second) in enumerate(zip(one, other)):
        if first != second:
            # The first unlike sums are those of the turnword of the first unlike place.
            return "unlike " + "".join([letter_text(letter) for letter in ground.word_at(place)])
    return "same"


def answer_join(book, ground, words):
    """The answer of join."""
    one, other = book.row(words[1]), book.row(words[2])
    return row_text(ground, checked(rows_joined(ground, one, other)))


def answer_root(book, ground, words):
    """The answer of root."""
    told, found = root(ground, book.row(words[1]), int(words[2]))
    if told == "none":
        return "none " + bracket_text(ground, found)
    return "root " + row_text(ground, checked(found))


def answer_goes(book, ground, words):
    """The answer of goes."""
    one, other = book.row(words[1]), book.row(words[2])
    return "yes" if go_together(ground, one, other) else "no"


ANSWERS = {
    "let": answer_let,
    "drop": answer_drop,
    "row": answer_row,
    "text": answer_text,
    "needs": answer_needs,
    "sum": answer_sum,
    "same": answer_same,
    "join": answer_join,
    "root": answer_root,
    "goes": answer_goes,
}

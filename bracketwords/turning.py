"""Turnwords: plain words that are less than each other turn of theirs."""

from bracketwords.words import joined, plain_words


def turns(word):
    """The words that begin at each place of a plain word and go on at its start behind its end."""
    return [joined(word[at:], word[:at]) for at in range(len(word))]


def is_turnword(word):
    """Whether a plain word is less than each other turn of it; the empty one is not."""
    plain = tuple(word)
    return len(plain) > 0 and all([plain < turn for turn in turns(plain)[1:]])


def least_turn(word):
    """The least turn of a plain word of one letter or more."""
    return min(turns(word), default=())


def turnwords(letters, size):
    """The rising list of all turnwords of that size, of the first so many letters."""
    return [word for word in plain_words(letters, size) if is_turnword(word)]


def how_many(letters, size):
    """How many turnwords of that size there are of so many letters."""
    counts = {}
    all_words = 1
    for length in range(1, size + 1):
        all_words *= letters
        # Every word is a turn of just one turnword repeated, and a turnword has as many turns as letters.
        shorter = [part * counts[part] for part in counts if length % part == 0]
        counts[length] = (all_words - sum(shorter)) // length
    return counts.get(size, 0)


def cut(word):
    """The list of turnwords that, joined, are the plain word, none less than the one behind it."""
    found = []
    for letter in word:
        last = (letter,)
        # Two turnwords of which the first is less than the second are one turnword when joined.
        while found and found[-1] < last:
            last = found.pop() + last
        found.append(last)
    return found


def halves(word):
    """The pair that joined is the turnword, the second one a turnword as long as can be, not all."""
    # The last piece of a cut is the longest turnword at the end of the word that is cut.
    ends = cut(word[1:])
    start = len(word) - len(ends[-1]) if ends else len(word)
    return (tuple(word[:start]), tuple(word[start:]))

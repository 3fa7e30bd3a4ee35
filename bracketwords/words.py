"""Words: tuples of steps, each a letter (1 to 4) or the back of one (-4 to -1)."""


def backed(word):
    """The word of the backs of the steps, the last one first."""
    return tuple([-step for step in reversed(word)])


def joined(one, other):
    """Both words, one behind the other."""
    return tuple(one) + tuple(other)


def shortened(word):
    """The word without neighbours that are a letter and its back, taken out until there are none."""
    kept = []
    for step in word:
        if kept and kept[-1] == -step:
            kept.pop()
        else:
            kept.append(step)
    return tuple(kept)


def repeated(word, n):
    """The word n times; where n is below 0, its backed word so often."""
    if n < 0:
        return backed(word) * -n
    return tuple(word) * n


def bracketed(one, other):
    """Backed one, backed other, one, other, with nothing taken out."""
    return joined(joined(backed(one), backed(other)), joined(one, other))


def plain_words(letters, size):
    """The rising list of all words of so many letters, each one of the first so many, with no backs."""
    found = [()]
    for taken in range(size):
        found = [word + (letter,) for word in found for letter in range(1, letters + 1)]
    return found

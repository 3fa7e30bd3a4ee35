"""Laying together: the words that have two plain words in them, and no letter beside."""


def laid_together(one, other):
    """The list of pairs (word, times): in how many ways both words together take all places of the word."""
    # laid[at] is what the beginning of one so far and the first at letters of other come to.
    laid = [{tuple(other[:at]): 1} for at in range(len(other) + 1)]
    for letter in one:
        laid = laid_with(laid, letter, other)
    return sorted(laid[-1].items(), key=lambda pair: (len(pair[0]), pair[0]))


def laid_with(laid, letter, other):
    """The same for a beginning of one that is longer by the letter."""
    longer = [letter_behind(laid[0], letter)]
    for at, last in enumerate(other):
        # The last letter of a word stands in one alone, in other alone, or in both.
        counts = letter_behind(laid[at + 1], letter)
        add_counts(counts, letter_behind(longer[at], last))
        if letter == last:
            add_counts(counts, letter_behind(laid[at], letter))
        longer.append(counts)
    return longer


def letter_behind(counts, letter):
    """The same counts of the words with the letter behind."""
    return {word + (letter,): counts[word] for word in counts}


def add_counts(counts, more):
    """Adds the counts of more to counts."""
    for word in more:
        counts[word] = counts.get(word, 0) + more[word]

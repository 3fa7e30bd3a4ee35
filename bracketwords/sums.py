"""Scattered sums: in how many ways the ground's words stand scattered in a word."""

from bracketwords.choices import chosen


def scattered(ground, word):
    """The list of the scattered sums of the ground's words in the word, in order."""
    told = empty_sums(ground)
    for step in word:
        endings = ground.endings(abs(step))
        if step > 0:
            # Longer words first, so that the new step is chosen at most once.
            for number, rest in reversed(endings):
                told[number] += told[rest]
        else:
            # Shorter words first, so that the new back may be chosen again.
            for number, rest in endings:
                told[number] -= told[rest]
    return told


def sums_joined(ground, one, other):
    """The sums of joined words, by the sums of both."""
    return [
        sum([one[beginning] * other[end] for beginning, end in partings])
        for partings in ground.partings()
    ]


def sums_backed(ground, one):
    """The sums of the backed word, by the word's sums."""
    return sums_repeated(ground, one, -1)


def sums_repeated(ground, one, n):
    """The sums of the word repeated any number of times, by the word's sums."""
    # The sums are 1 + x, where x has nought for the empty word, so that no more than depth x's
    # joined come to something: 1 + x to the n is the choices of k out of n times x to the k.
    rest = [0] + list(one[1:])
    power = empty_sums(ground)
    told = [0 for number in power]
    for k in range(ground.depth() + 1):
        times = chosen(n, k)
        told = [worth + times * more for worth, more in zip(told, power)]
        power = sums_joined(ground, power, rest)
    return told


def empty_sums(ground):
    """The sums of the empty word: 1 for the empty word, 0 for all others."""
    return [1] + [0 for partings in ground.partings()[1:]]

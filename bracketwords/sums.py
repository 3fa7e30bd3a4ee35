"""Scattered sums: in how many ways the ground's words stand scattered in a word."""

from bracketwords.choices import chosen


def scattered(ground, word):
    """The list of the scattered sums of the ground's words in the word, in order."""
    told = empty_sums(ground)
    for step in word:
        endings = ground.endings(abs(step))
        if step > 0:
            # Longer words first, so that the new step is chosen at most once.
            for number, rest in reversed(endings):
                told[number] += told[rest]
        else:
            # Shorter words first, so that the new back may be chosen again.
            for number, rest in endings:
                told[number] -= told[rest]
    return told


def sums_joined(ground, one, other):
    """The sums of joined words, by the sums of both."""
    return [
        sum([one[beginning] * other[end] for beginning, end in partings])
        for partings in ground.partings()
    ]


def sums_backed(ground, one):
    """The sums of the backed word, by the word's sums."""
    return sums_repeated(ground, one, -1)


def sums_bracketed(ground, one, other):
    """The sums of the bracket of two words, by the sums of both."""
    backs = sums_joined(ground, sums_backed(ground, one), sums_backed(ground, other))
    return sums_joined(ground, backs, sums_joined(ground, one, other))


def sums_repeated(ground, one, n):
    """The sums of the word repeated any number of times, by the word's sums."""
    return powers_chosen(rest_powers(ground, one), n)


def rest_powers(ground, one):
    """The powers of the sums less those of the empty word, from the noughth on, as many as are not all noughts."""
    # Without the empty word each power has only words of more letters than the one before it,
    # so that none is left beyond the ground's depth.
    rest = [0] + list(one[1:])
    powers = [empty_sums(ground)]
    power = rest
    while any(power):
        powers.append(power)
        power = sums_joined(ground, power, rest)
    return powers


def powers_chosen(powers, n):
    """The sums of a word repeated n times, by the powers that rest_powers tells of its sums."""
    # The sums are 1 + x, and 1 + x to the n is the choices of k out of n times x to the k.
    told = [0 for number in powers[0]]
    for k, power in enumerate(powers):
        times = chosen(n, k)
        told = [worth + times * more for worth, more in zip(told, power)]
    return told


def empty_sums(ground):
    """The sums of the empty word: 1 for the empty word, 0 for all others."""
    return [1] + [0 for partings in ground.partings()[1:]]

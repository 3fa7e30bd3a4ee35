"""Roots: which row, raised, is a row."""

from bracketwords.doing import deepness, row_raised


def root(ground, row, n):
    """("root", y) with the row y that, raised by n, is the row; else ("none", place)."""
    found = [0 for number in row]
    for size in range(1, ground.depth() + 1):
        # Places of one size change no other number of that size, and each counts n times for its own.
        raised = row_raised(ground, found, n)
        for place, number in enumerate(row):
            if ground.size_at(place) == size:
                times, rest = divmod(number - raised[place], n)
                if rest != 0:
                    return ("none", place)
                found[place] = times
    return ("root", tuple(found))


def most_root(ground, row):
    """The pair (y, n) with the greatest n for which y raised by n is the row; (row, 0) of nothing."""
    least = deepness(ground, row)
    shared = 0
    for place, number in enumerate(row):
        if ground.size_at(place) == least:
            shared = common_divisor(shared, number)
    if shared == 0:
        return (tuple(row), 0)
    # The numbers of the least size are just n times those of the root, so n divides them all. Roots by two
    # numbers are powers of one root by both, so it is enough to try the primes one behind the other.
    found, most = tuple(row), 1
    for prime in primes_of(shared):
        told, what = root(ground, found, prime)
        if told == "root":
            found = what
            most *= prime
    return (found, most)


def common_divisor(one, other):
    """The greatest number that divides both; 0 where both are 0."""
    while other != 0:
        one, other = other, one % other
    return abs(one)


def primes_of(number):
    """The rising list of the primes whose product the number is, each as often as it counts."""
    found = []
    prime = 2
    while prime * prime <= number:
        if number % prime == 0:
            found.append(prime)
            number //= prime
        else:
            prime += 1
    if number > 1:
        found.append(number)
    return found

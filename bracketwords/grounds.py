"""Grounds: how many letters there are, and to which depth brackets count."""

from bracketwords.errors import NoGround, NoPlace
from bracketwords.sums import rest_powers, scattered
from bracketwords.turning import halves, is_turnword
from bracketwords.words import bracketed, plain_words

# The greatest depth for none, one, two, three and four letters.
DEEPEST = (0, 5, 5, 4, 3)


class Ground:
    """A count of letters and a depth, with the words and the turnwords that belong to them."""

    def __init__(self, letters, depth):
        if not 1 <= letters < len(DEEPEST) or not 1 <= depth <= DEEPEST[letters]:
            # The numbers may be too long to be written, so the words leave them out.
            raise NoGround("there is no ground of so many letters with this depth")
        self.letter_count = letters
        self.deepest = depth
        self.plain = words_up_to(letters, depth)
        self.turned = [word for word in self.plain if is_turnword(word)]
        self.numbered = {word: place for place, word in enumerate(self.turned)}
        self.parted = all_partings(self.plain)
        self.ended = all_endings(self.plain)
        self.standing = tuple([number for number, word in enumerate(self.plain) if word in self.numbered])
        # Rows ask for these again and again, so they are reckoned here once.
        self.powered = [all_powers(self, place) for place in range(len(self.turned))]

    def letters(self):
        """How many letters there are."""
        return self.letter_count

    def depth(self):
        """To which depth brackets count."""
        return self.deepest

    def words(self):
        """All plain words of none to depth letters, by their sizes, then rising."""
        return list(self.plain)

    def turnwords(self):
        """All turnwords among the words, in the same order: the word of each place."""
        return list(self.turned)

    def places(self):
        """How many places there are."""
        return len(self.turned)

    def word_at(self, place):
        """The turnword of the place."""
        return self.turned[place]

    def place_of(self, word):
        """The place of the turnword."""
        plain = tuple(word)
        if plain not in self.numbered:
            raise NoPlace("the word is none of the ground's turnwords")
        return self.numbered[plain]

    def size_at(self, place):
        """How many letters the place's turnword has."""
        return len(self.turned[place])

    def parts_at(self, place):
        """The pair of the places of both halves of the place's turnword; None of a letter."""
        if self.size_at(place) == 1:
            return None
        first, second = halves(self.turned[place])
        return (self.place_of(first), self.place_of(second))

    def bracket_at(self, place):
        """The place's bracket as a word."""
        parts = self.parts_at(place)
        if parts is None:
            return self.turned[place]
        return bracketed(self.bracket_at(parts[0]), self.bracket_at(parts[1]))

    def partings(self):
        """For each word, in order, its partings into a beginning and an end, as pairs of their numbers."""
        return self.parted

    def endings(self, letter):
        """For each word with that last letter, in order, its number and that of the word without it."""
        return self.ended.get(letter, ())

    def standings(self):
        """For each place, in order, the number that its turnword has among the words."""
        return self.standing

    def bracket_powers(self, place):
        """The powers of the sums of the place's bracket less those of the empty word, from the noughth on."""
        return self.powered[place]


def words_up_to(letters, depth):
    """All plain words of none to depth letters, by their sizes, then rising."""
    found = []
    for size in range(depth + 1):
        found.extend(plain_words(letters, size))
    return found


def all_partings(words):
    """A tuple with, for each word, the pairs of the numbers of a beginning and the end behind it."""
    numbers = {word: number for number, word in enumerate(words)}
    return tuple([
        tuple([(numbers[word[:at]], numbers[word[at:]]) for at in range(len(word) + 1)])
        for word in words
    ])


def all_endings(words):
    """For each letter a tuple of the pairs of the numbers of a word that ends with it and of the rest."""
    numbers = {word: number for number, word in enumerate(words)}
    letters = [word[0] for word in words if len(word) == 1]
    return {
        letter: tuple([(numbers[word], numbers[word[:-1]]) for word in words if word[-1:] == (letter,)])
        for letter in letters
    }


def all_powers(ground, place):
    """What the ground tells as bracket_powers, as tuples."""
    powers = rest_powers(ground, scattered(ground, ground.bracket_at(place)))
    return tuple([tuple(power) for power in powers])

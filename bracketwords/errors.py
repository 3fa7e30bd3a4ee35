"""The refusals: one class for each kind, all straight under BracketError."""


class BracketError(ValueError):
    """What all refusals have in common."""


class NoGround(BracketError):
    """There is no ground of these letters and this depth."""


class NoPlace(BracketError):
    """The word has no place on the ground."""


class TooLong(BracketError):
    """The word has too many steps to be spelled."""


class NoRules(BracketError):
    """The ground is too large for rules."""


class NoPut(BracketError):
    """The rows cannot be put in for the letters."""


class BadText(BracketError):
    """The text is no formula; at is how many of its signs could begin one."""

    def __init__(self, words, at):
        super().__init__(words)
        self.at = at


class NoLetter(BracketError):
    """The letter of this number is not on the ground."""

    def __init__(self, words, letter):
        super().__init__(words)
        self.letter = letter


class NoName(BracketError):
    """The name stands for nothing."""

    def __init__(self, words, name):
        super().__init__(words)
        self.name = name


class TooGreat(BracketError):
    """A number is too great to be told."""


class BadName(BracketError):
    """The text is no name."""


class Ring(BracketError):
    """A name would need itself; ring is the list of names that leads back to it."""

    def __init__(self, words, ring):
        super().__init__(words)
        self.ring = list(ring)


class BadRow(BracketError):
    """The row of this number is not written as the desk reads rows."""

    def __init__(self, words, line):
        super().__init__(words)
        self.line = line

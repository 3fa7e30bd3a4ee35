"""What the tests of texts share: texts made beside their trees, the rules of [22] and a book told in another way."""

import re

from bracketwords.errors import NoName, TooGreat
from bracketwords.texts import row_in
from bracketwords.trees import names_in, read_tree

ITEM = r"(?:[a-z]{2,8}|[a-d]|1|!)(?:\^(?:0|-?[1-9][0-9]{0,8}))?"
ITEMS = ITEM + "(?: " + ITEM + ")*"
INNERMOST = re.compile(r"\(" + ITEMS + r"\)|\[" + ITEMS + ", " + ITEMS + r"\]")
CLOSED = {"(": ")", "[": ", a]", ",": "]"}
NAMES = ["aa", "ab", "zz", "word", "eight", "abcdefgh", "zzzzzzzz", "dd", "let", "ef"]


def is_text(text):
    """Whether the text is an EXPR: innermost brackets are taken out until there are none."""
    if "!" in text or deepest(text) > 20:
        return False
    shorter = INNERMOST.sub("!", text)
    while shorter != text:
        text, shorter = shorter, INNERMOST.sub("!", shorter)
    return re.fullmatch(ITEMS, text) is not None


def deepest(text):
    """How many brackets stand within one another at most."""
    now = most = 0
    for sign in text:
        now += (sign in "([") - (sign in ")]")
        most = max(most, now)
    return most


def closing(beginning):
    """The signs by which the brackets that are still there are closed."""
    held = []
    for sign in beginning:
        if sign in "([":
            held.append(sign)
        elif sign in ")]" and held:
            held.pop()
        elif sign == "," and held:
            held[-1] = ","
    return "".join(CLOSED[sign] for sign in reversed(held))


def begins_some(beginning):
    """Whether some EXPR begins so: it does where one more sign or two, and closed brackets, make one of it."""
    return any(is_text(beginning + more + closing(beginning + more)) for more in ("", "a", "e", "1", " a"))


def longest_beginning(text):
    """How many signs the longest beginning has with which some EXPR begins."""
    at = 0
    while at < len(text) and begins_some(text[:at + 1]):
        at += 1
    return at


def drawn_items(source, brackets, letters=4, names=NAMES, most=4, power=999999999):
    """The text and the tree of some items, with at most so many brackets within one another."""
    texts, trees = [], []
    for time in range(source.randint(1, most)):
        text, tree = drawn_atom(source, brackets, letters, names, most, power)
        if source.randrange(3) == 0:
            n = source.choice((0, 1, -1, 2, source.randint(-power, power), power, -power))
            text, tree = f"{text}^{n}", ("power", tree, n)
        texts.append(text)
        trees.append(tree)
    return " ".join(texts), ("items", tuple(trees))


def drawn_atom(source, brackets, letters, names, most, power):
    """The text and the tree of an atom."""
    kind = source.randrange(7 if brackets > 0 else 4)
    if kind == 0 and names:
        name = source.choice(names)
        return name, ("name", name)
    if kind == 1 and source.randrange(2) == 0:
        return "1", ("none",)
    if kind < 4:
        letter = source.randint(1, letters)
        return "abcd"[letter - 1], ("letter", letter)
    first, tree = drawn_items(source, brackets - 1, letters, names, most, power)
    if kind == 4:
        return f"({first})", tree
    second, other = drawn_items(source, brackets - 1, letters, names, most, power)
    return f"[{first}, {second}]", ("bracket", tree, other)


def spoilt(text, source, many, signs="abez1029^-[](), !~A"):
    """Texts like it with a sign put in, left out, twice or another one, at some place."""
    for time in range(many):
        at = source.randrange(len(text))
        sign = source.choice(signs)
        yield text[:at] + sign + text[at:]
        yield text[:at] + text[at + 1:]
        yield text[:at] + text[at] + text[at:]
        yield text[:at] + sign + text[at + 1:]
        yield text[:at]
        yield text + sign


class Model:
    """A book told in another way: texts alone, and all reckoned anew at each asking."""

    def __init__(self, ground):
        self.ground = ground
        self.texts = {}

    def straight(self, name):
        return names_in(read_tree(self.texts[name])) if name in self.texts else []

    def all_needs(self, name):
        found = set(self.straight(name))
        while True:
            more = found.union(*[self.straight(other) for other in found])
            if more == found:
                return sorted(found)
            found = more

    def rings(self, name, size):
        """All rings of so many names, the first one twice, by trying all lists."""
        lists = [[name]]
        for time in range(size):
            lists = [one + [other] for one in lists for other in self.straight(one[-1])]
        return sorted(one for one in lists if one[-1] == name)

    def ring(self, name):
        for size in range(1, len(self.texts) + 2):
            if self.rings(name, size):
                return self.rings(name, size)[0]
        return None

    def row(self, name):
        """The row, or the refusal's class and its name."""
        if name not in self.texts:
            return (NoName, name)
        lacking = [other for other in self.all_needs(name) if other not in self.texts]
        if lacking:
            return (NoName, lacking[0])
        named = {other: self.row(other) for other in self.straight(name)}
        if (TooGreat, None) in named.values():
            return (TooGreat, None)
        try:
            return row_in(self.ground, read_tree(self.texts[name]), named)
        except TooGreat:
            return (TooGreat, None)

    def rows(self):
        return [
            (name, None if self.row(name)[0] in (NoName, TooGreat) else self.row(name))
            for name in sorted(self.texts)
        ]

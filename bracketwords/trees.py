"""Trees: what a text of letters, names, powers and brackets is made of."""

from bracketwords.errors import BadText

LETTERS = "abcd"
SMALL_LETTERS = "abcdefghijklmnopqrstuvwxyz"
FIGURES = "0123456789"
LEAST_NAME = 2
MOST_NAME = 8
MOST_FIGURES = 9
MOST_BRACKETS = 20


class Reader:
    """A text that is being read: the signs ahead of at are such that some text of the rules begins with them."""

    def __init__(self, text):
        self.text = text
        self.at = 0

    def taken(self, signs):
        """Whether the next sign is one of these; if so, it is read."""
        if self.at == len(self.text) or self.text[self.at] not in signs:
            return False
        self.at += 1
        return True

    def need(self, whether):
        """Refuses the text where what must be so is not."""
        if not whether:
            raise BadText("the text is not written by the rules", self.at)

    def whole(self):
        """The tree of the whole text."""
        tree = self.items_within(0)
        self.need(self.at == len(self.text))
        return tree

    def items_within(self, brackets):
        """The tree of items that stand within so many brackets."""
        trees = [self.item(brackets)]
        while self.taken(" "):
            trees.append(self.item(brackets))
        return ("items", tuple(trees))

    def item(self, brackets):
        """The tree of an atom, maybe with its power."""
        tree = self.atom(brackets)
        if self.taken("^"):
            return ("power", tree, self.power())
        return tree

    def atom(self, brackets):
        """The tree of a letter, a name, nothing, or a bracket of either kind."""
        if self.taken("1"):
            return ("none",)
        if self.taken(SMALL_LETTERS):
            return self.letter_or_name()
        # Only a bracket is left, and one too many is refused ahead of its sign.
        self.need(brackets < MOST_BRACKETS)
        if self.taken("("):
            tree = self.items_within(brackets + 1)
            self.need(self.taken(")"))
            return tree
        self.need(self.taken("["))
        return self.two_within(brackets + 1)

    def two_within(self, brackets):
        """The tree of a bracket whose first sign is read."""
        first = self.items_within(brackets)
        self.need(self.taken(","))
        self.need(self.taken(" "))
        second = self.items_within(brackets)
        self.need(self.taken("]"))
        return ("bracket", first, second)

    def letter_or_name(self):
        """The tree of a letter or a name whose first sign is read."""
        start = self.at - 1
        while self.at - start < MOST_NAME and self.taken(SMALL_LETTERS):
            pass
        found = self.text[start:self.at]
        if is_name(found):
            return ("name", found)
        self.need(found in LETTERS)
        return ("letter", LETTERS.index(found) + 1)

    def power(self):
        """The number of a power."""
        start = self.at
        below = self.taken("-")
        if not below and self.taken("0"):
            return 0
        first = self.at
        self.need(self.taken(FIGURES[1:]))
        while self.at - first < MOST_FIGURES and self.taken(FIGURES):
            pass
        return int(self.text[start:self.at])


def read_tree(text):
    """The tree of the text."""
    return Reader(text).whole()


def is_name(text):
    """Whether the text is a name."""
    return LEAST_NAME <= len(text) <= MOST_NAME and all([sign in SMALL_LETTERS for sign in text])


def tree_text(tree):
    """The text whose tree it is."""
    return " ".join([item_text(item) for item in tree[1]])


def item_text(tree):
    """The text of an item, by its tree."""
    if tree[0] == "power":
        return f"{atom_text(tree[1])}^{tree[2]}"
    return atom_text(tree)


def atom_text(tree):
    """The text of an atom, by its tree."""
    kind = tree[0]
    if kind == "letter":
        return letter_text(tree[1])
    if kind == "name":
        return tree[1]
    if kind == "none":
        return "1"
    if kind == "bracket":
        return pair_text(tree_text(tree[1]), tree_text(tree[2]))
    return f"({tree_text(tree)})"


def letter_text(letter):
    """The sign of a letter, by its number."""
    return LETTERS[letter - 1]


def pair_text(one, other):
    """The text of the bracket of two texts."""
    return f"[{one}, {other}]"


def names_in(tree):
    """The rising list of the tree's names, each once."""
    return sorted({leaf[1] for leaf in leaves(tree) if leaf[0] == "name"})


def leaves(tree):
    """The list of the trees in it that have no trees in them, as they stand in the text."""
    kind = tree[0]
    if kind == "items":
        parts = tree[1]
    elif kind == "power":
        parts = tree[1:2]
    elif kind == "bracket":
        parts = tree[1:]
    else:
        return [tree]
    found = []
    for part in parts:
        found.extend(leaves(part))
    return found

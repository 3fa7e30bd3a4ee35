"""A book: formulas by names, which may change, and the rows that they stand for now."""

from bracketwords.errors import BadName, NoName, Ring, TooGreat
from bracketwords.texts import check_letters, row_in
from bracketwords.trees import is_name, names_in, read_tree, tree_text


class Book:
    """The formulas of names, on one ground."""

    def __init__(self, ground):
        self.base = ground
        self.formulas = {}

    def let(self, name, text):
        """From now on the name's formula is the text's."""
        if not is_name(name):
            raise BadName("the text is no name")
        tree = read_tree(text)
        check_letters(self.base, tree)
        formulas = dict(self.formulas)
        formulas[name] = tree
        ring = first_ring(formulas, name)
        if ring is not None:
            raise Ring("the name would need itself", ring)
        self.formulas = formulas

    def drop(self, name):
        """The name is there no more."""
        self.check_there(name)
        del self.formulas[name]

    def names(self):
        """The rising list of the names that are there."""
        return sorted(self.formulas)

    def text_of(self, name):
        """The text of the name's formula."""
        self.check_there(name)
        return tree_text(self.formulas[name])

    def needs(self, name):
        """The rising list of all names that the name needs, there or not."""
        self.check_there(name)
        found = {}
        waiting = [name]
        while waiting:
            last = waiting.pop()
            for other in formula_names(self.formulas, last):
                if other not in found:
                    found[other] = True
                    waiting.append(other)
        return sorted(found)

    def used_by(self, name):
        """The rising list of the names there that need the name."""
        return [other for other in self.names() if name in self.needs(other)]

    def row(self, name):
        """The row of the name's formula, as all formulas stand now."""
        needed = self.needs(name)
        for other in needed:
            self.check_there(other)
        reckoned = self.reckoned(needed + [name])
        if name not in reckoned:
            raise TooGreat("a row on the way is too great")
        return reckoned[name]

    def rows(self):
        """The list of pairs of each name there and its row, None where that is refused."""
        reckoned = self.reckoned(self.names())
        return [(name, reckoned.get(name)) for name in self.names()]

    def changed(self, name, text):
        """Does let, and tells the rising list of the names whose rows are others than ahead of it."""
        ahead = dict(self.rows())
        self.let(name, text)
        return [other for other, row in self.rows() if row != ahead.get(other)]

    def twin(self):
        """A Book with the same formulas, which goes its own way."""
        other = Book(self.base)
        other.formulas = dict(self.formulas)
        return other

    def check_there(self, name):
        """Refuses a name that is not there."""
        if name not in self.formulas:
            raise NoName("the name is not there", name)

    def reckoned(self, names):
        """The rows by the names, which are there, with what is there of their needs; a refused one is left out."""
        told = {}
        # A name needs more names than each of those that it needs, so these come ahead of it.
        for name in sorted(names, key=lambda one: len(self.needs(one))):
            try:
                told[name] = row_in(self.base, self.formulas[name], told)
            except (NoName, TooGreat):
                # As it is left out, so is each name that needs it.
                continue
        return told


def formula_names(formulas, name):
    """The rising list of the names in the name's formula; of none where it has no formula."""
    return names_in(formulas[name]) if name in formulas else []


def first_ring(formulas, name):
    """The shortest list of names that leads from the name back to it, the first as lists rise; None without one."""
    paths = [[name]]
    seen = {}
    while paths:
        longer = []
        # The paths are of one length and rise, so the ring that is found first is the first as lists rise.
        for path in paths:
            for other in formula_names(formulas, path[-1]):
                if other == name:
                    return path + [other]
                if other not in seen:
                    seen[other] = True
                    longer.append(path + [other])
        paths = longer
    return None

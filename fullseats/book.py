"""Definitions and books."""

from fullseats.basics import are_names, is_name
from fullseats.errors import BadTerm, Clash, NoName

MOST_PARAMS = 4
MOST_DEFINITIONS = 12


class Definition:
    """Parameters and a body; it is made once and never changed."""

    def __init__(self, params, body):
        """Keeps the params, a list or tuple of names, and the body, a process."""
        if len(params) > MOST_PARAMS or not are_names(params):
            raise BadTerm("params")
        self.params = tuple(params)
        self.body = body

    def __eq__(self, other):
        return isinstance(other, Definition) and self.params == other.params and self.body == other.body


class Book:
    """Definitions by their names, in an order."""

    def __init__(self, given=()):
        """An empty book, or one of the given dict of definitions."""
        # The dict is never changed, only replaced by another one: so whoever iterates over the
        # book goes on undisturbed, and a refused change leaves nothing behind.
        self.by_name = dict(given)

    def __setitem__(self, at, worth):
        """Adds a definition, or replaces the one of this name in its place."""
        if not is_name(at):
            raise BadTerm("name")
        self.by_name = limited({**self.by_name, at: worth})

    def __getitem__(self, at):
        """The definition of a name."""
        if at not in self.by_name:
            raise NoName(at)
        return self.by_name[at]

    def __contains__(self, x):
        return x in self.by_name

    def __len__(self):
        return len(self.by_name)

    def __iter__(self):
        return iter(self.by_name)

    def __eq__(self, other):
        return isinstance(other, Book) and self.by_name == other.by_name

    def names(self):
        """The names that are defined, ascending."""
        return sorted(self.by_name)

    def __or__(self, other):
        """A new book with the definitions of both."""
        if not isinstance(other, Book):
            return NotImplemented
        return Book(united(self.by_name, other.by_name))

    def __ior__(self, other):
        """Adds the definitions of another book."""
        if not isinstance(other, Book):
            return NotImplemented
        self.by_name = united(self.by_name, other.by_name)
        return self


def limited(by_name):
    """The dict itself, unless it holds more definitions than a book may."""
    if len(by_name) > MOST_DEFINITIONS:
        raise BadTerm("definitions")
    return by_name


def united(one, other):
    """A new dict with the definitions of both dicts; those of one come first."""
    clashes = [name for name in one if name in other and one[name] != other[name]]
    if clashes:
        raise Clash(min(clashes))
    return limited({**one, **other})

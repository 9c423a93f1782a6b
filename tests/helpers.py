"""What the tests share."""

import unittest

from fullseats.book import Book, Definition
from fullseats.errors import BadTerm, BadText, Endless, NoMachine, NoName, WrongCount
from fullseats.program import Program
from fullseats.terms import Net, Process

ATTRIBUTES = {
    BadTerm: "field", BadText: "line", Endless: "name", NoMachine: "machine", NoName: "name", WrongCount: "name",
}

GOOD_NAMES = ["a", "z", "m5", "a0", "z9", "abcdefgh", "a2345678", "stops", "sto", "news", "iff", "ats", "starts"]
RESERVED = ["stop", "new", "if", "then", "else", "put", "get", "channel", "at", "define", "start"]
BAD_NAMES = RESERVED + [
    "", "abcdefghi", "a23456789", "5", "5a", "0abc", "A", "Abc", "aB", "abcD", "a_b", "_a", "a-b", "-a", "a b", " a",
    "a ", "a\n", "\n", "a.b", "a:b", "a(", "\u00e9", "a\u00e9", "\u00df", "\u0430", "a\u0660", "a\u00b2", "a\x00",
    "{", "`", "a/", "a:", "a`", "a{", "a" * 1000,
]
THIRTY_DIGITS = 10 ** 30 - 1
GOOD_OPERANDS = GOOD_NAMES + [0, 1, -1, 400, THIRTY_DIGITS, -THIRTY_DIGITS, 10 ** 29]
BAD_OPERANDS = BAD_NAMES + [THIRTY_DIGITS + 1, -THIRTY_DIGITS - 1, 10 ** 100, -10 ** 100, True, False]

STOP = Process.stop()


def offer(channel="a", seat=0, seats=1, operand=5, names=(), rest=STOP):
    """A choice with one offer, most of which a test does not care about."""
    return Process.offer(channel, seat, seats, operand, names, rest)


def choice(count):
    """A choice with so many different offers."""
    made = Process.stop()
    for operand in range(count):
        made = made + offer(operand=operand)
    return made


def tower(depth):
    """A process of this depth, and of the same size."""
    made = Process.stop()
    for level in range(depth - 1):
        made = Process.new("a", 1, made)
    return made


def sized(size):
    """A process of this size, and of small depth."""
    if size == 1:
        return Process.stop()
    if size == 2:
        return Process.new("a", 1, Process.stop())
    half = (size - 1) // 2
    return Process.when(0, 0, sized(half), sized(size - 1 - half))


def numbered(count, first=0):
    """So many processes, all different."""
    return [Process.call("f", [first + number]) for number in range(count)]


def net(count, first=0):
    """A net of so many processes, all different."""
    return Net(numbered(count, first))


def call(name, *operands):
    """A call."""
    return Process.call(name, operands)


def book_with(definitions):
    """A book of a dict: under each name the parameters, with a space between them, and the body."""
    book = Book()
    for name, (params, body) in definitions.items():
        book[name] = Definition(params.split(), body)
    return book


def program(channels=(), definitions=None, starts=(STOP,)):
    """A program, most parts of which a test does not care about."""
    return Program(list(channels), book_with(definitions or {}), Net(list(starts)))


class TermCase(unittest.TestCase):
    """A test case that can ask for a refusal."""

    def refuses(self, field, action, *arguments):
        """The action raises BadTerm with this very field."""
        self.fails(BadTerm, field, action, *arguments)

    def fails(self, kind, argument, action, *arguments):
        """The action raises an error of this very class with this very argument."""
        with self.assertRaises(kind) as caught:
            action(*arguments)
        told = getattr(caught.exception, ATTRIBUTES[kind])
        # A number that is too long to be written can only be compared.
        self.assertTrue(told == argument, f"another argument than expected in a {kind.__name__}")
        self.assertTrue(type(caught.exception) is kind)

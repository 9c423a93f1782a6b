"""Reading processes from the tokens of a line."""

from fullseats.basics import int_read
from fullseats.errors import BadText
from fullseats.terms import MOST_DEPTH, Process
from fullseats.tokens import Tokens


class Reader(Tokens):
    """The tokens of a line of a program, or of a process.

    A line that has no form raises BadText; a term that is not allowed raises BadTerm.
    """

    def __init__(self, line, number):
        """Keeps the tokens of the line, and its number for the errors."""
        Tokens.__init__(self, line)
        self.number = number

    def refuse(self):
        raise BadText(self.number)

    def expect(self, word):
        """Takes the next token, which must be this word or sign."""
        self.require(self.take_token() == word)

    def take_operand(self):
        """The next token as an operand."""
        return operand_read(self.take_token())

    def take_list(self):
        """The tokens between a pair of brackets."""
        self.expect("(")
        listed = []
        while (token := self.take_token()) != ")":
            listed.append(token)
        return listed

    def take_process(self, level=1):
        """A process that stands at this level; a process that stands in no other is at level 1."""
        # A deeper one is not allowed in any case, and following it could lead too deep for Python.
        self.require(level <= MOST_DEPTH)
        word = self.take_token()
        if word == "stop":
            return Process.stop()
        if word == "[":
            return self.take_choice(level)
        if word == "new":
            return self.take_new(level)
        if word == "if":
            return self.take_when(level)
        return Process.call(word, [operand_read(token) for token in self.take_list()])

    def take_choice(self, level):
        """The rest of a choice that stands at this level."""
        choice = self.take_offer(level)
        while (token := self.take_token()) == "+":
            choice = choice + self.take_offer(level)
        self.require(token == "]")
        return choice

    def take_offer(self, level):
        """One offer of a choice that stands at this level, as a choice of its own."""
        channel = self.take_token()
        seat = self.take_int()
        self.expect("/")
        seats = self.take_int()
        self.expect("put")
        operand = self.take_operand()
        self.expect("get")
        names = self.take_list()
        self.expect("then")
        return Process.offer(channel, seat, seats, operand, names, self.take_process(level + 1))

    def take_new(self, level):
        """The rest of a new process that stands at this level."""
        name = self.take_token()
        seats = self.take_int()
        return Process.new(name, seats, self.take_process(level + 1))

    def take_when(self, level):
        """The rest of an if process that stands at this level."""
        left = self.take_operand()
        self.expect("=")
        right = self.take_operand()
        self.expect("then")
        yes = self.take_process(level + 1)
        self.expect("else")
        return Process.when(left, right, yes, self.take_process(level + 1))


def operand_read(token):
    """The integer whose written form is the token, or else the token, which may be a name."""
    value = int_read(token)
    return token if value is None else value

"""Taking the tokens of a line one after another."""

from fullseats.basics import int_read
from fullseats.errors import SeatsError


class Tokens:
    """The tokens of a line, between which stands exactly one space."""

    def __init__(self, line):
        """Splits the line; two spaces in a row have an empty token between them."""
        self.tokens = line.split(" ")
        self.taken = 0

    def refuse(self):
        """Raises the error for a line without a form; each kind of line has an error of its own."""
        raise SeatsError("a line has no form")

    def require(self, allowed):
        """Refuses the line unless it is allowed."""
        if not allowed:
            self.refuse()

    def has_more(self):
        """Whether there is another token."""
        return self.taken < len(self.tokens)

    def finish(self):
        """Checks that all tokens have been taken."""
        self.require(not self.has_more())

    def take_token(self):
        """The next token."""
        self.require(self.has_more())
        self.taken += 1
        return self.tokens[self.taken - 1]

    def take_int(self):
        """The next token as an integer."""
        value = int_read(self.take_token())
        self.require(value is not None)
        return value

    def take_count(self, least=0):
        """The next token as an integer that is not less than the least one."""
        value = self.take_int()
        self.require(value >= least)
        return value

    def take_ints(self, sign, count):
        """The next token as a tuple of so many integers, between which the sign stands."""
        numbers = [int_read(part) for part in self.take_token().split(sign)]
        self.require(len(numbers) == count and all([number is not None for number in numbers]))
        return tuple(numbers)

"""Reading the commands of a desk."""

from fullseats.errors import BadCommand
from fullseats.basics import MOST_SEATS
from fullseats.tokens import Tokens

# The words that stand alone, and those in front of a number that is not negative.
ALONE = ("undo", "network", "run", "bars")
WITH_COUNT = ("deliver", "drop", "repeat", "drive", "log")


class CommandReader(Tokens):
    """The tokens of a command."""

    def refuse(self):
        raise BadCommand()

    def take_command(self):
        """The command as a tuple: the deed that it performs, or else its word and its argument."""
        word = self.take_token()
        command = (word,) + self.take_arguments(word)
        self.finish()
        return ("tick_all",) if command == ("tick",) else command

    def take_arguments(self, word):
        """What stands behind the first word of a command, as a tuple."""
        if word == "attempt":
            return (self.take_ints(":", 3), self.take_seating())
        if word in WITH_COUNT or word == "tick" and self.has_more():
            return (self.take_count(),)
        self.require(word in ALONE or word == "tick")
        return ()

    def take_seating(self):
        """One to four pairs."""
        pairs = [self.take_ints("/", 2)]
        while self.has_more():
            pairs.append(self.take_ints("/", 2))
        self.require(len(pairs) <= MOST_SEATS)
        return tuple(pairs)

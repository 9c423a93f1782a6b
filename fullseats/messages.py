"""The messages that the machines send to each other."""

from fullseats.basics import int_text
from fullseats.values import value_text
from fullseats.wire import MessageReader


class Message:
    """A message; it is made once and never changed."""

    def __init__(self, kind, to, sender, body):
        """Keeps the kind, the machine to which it goes, the one that sends it, and the body, a tuple."""
        self.kind = kind
        self.to = to
        self.sender = sender
        self.body = body

    @staticmethod
    def read(text):
        """The message whose written form is the text."""
        kind, to, sender, body = MessageReader(text).take_message()
        return Message(kind, to, sender, body)

    def written(self):
        """The written form."""
        return " ".join([self.kind, int_text(self.to), int_text(self.sender)] + body_tokens(self.kind, self.body))

    def __eq__(self, other):
        return (
            isinstance(other, Message) and self.kind == other.kind and self.to == other.to
            and self.sender == other.sender and self.body == other.body
        )


def body_tokens(kind, body):
    """The tokens of the body of a message of this kind, a list."""
    if kind == "offers":
        turn, rows = body
        return [int_text(turn)] + value_tokens(rows)
    if kind == "done":
        attempt, (channel, parts) = body
        return [int_text(attempt), value_text(channel)] + value_tokens(parts)
    return [int_text(number) for number in body]


def value_tokens(rows):
    """The tokens of all that stands in the rows or parts, a list."""
    return [value_text(part) for row in rows for part in row]

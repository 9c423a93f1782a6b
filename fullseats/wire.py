"""Reading messages from their tokens."""

from fullseats.basics import int_read, is_index, is_seats
from fullseats.errors import BadMessage
from fullseats.terms import MOST_MACHINES, MOST_OFFERS
from fullseats.tokens import Tokens

# The kinds of messages that a party handles, and those that a home handles.
TO_PARTY = ("heard", "ask", "done", "free")
TO_HOME = ("offers", "yes", "no")


class MessageReader(Tokens):
    """The tokens of a message. What breaks a condition of messages is refused as well."""

    def __init__(self, text):
        """Keeps the tokens, and the text for the error."""
        Tokens.__init__(self, text)
        self.text = text

    def refuse(self):
        raise BadMessage(self.text)

    def take_message(self):
        """The kind, the machines and the body of the message."""
        kind = self.take_token()
        self.require(kind in TO_PARTY or kind in TO_HOME)
        to = self.take_below(MOST_MACHINES)
        sender = self.take_below(MOST_MACHINES)
        body = self.take_body(kind, to, sender)
        self.finish()
        return (kind, to, sender, body)

    def take_body(self, kind, to, sender):
        """The body of a message of this kind between these machines."""
        if kind == "offers":
            return (self.take_count(), self.take_rows(to))
        if kind == "heard":
            return (self.take_count(),)
        attempt = self.take_count(1)
        if kind == "ask":
            return (attempt, self.take_count())
        if kind == "done":
            return (attempt, self.take_meeting(to, sender))
        return (attempt,)

    def take_below(self, limit):
        """The next token as an integer from 0 on that is less than the limit."""
        value = self.take_int()
        self.require(is_index(value, limit))
        return value

    def take_channel(self):
        """The next token as a channel."""
        channel = self.take_ints(":", 3)
        home, number, seats = channel
        self.require(is_index(home, MOST_MACHINES) and number >= 0 and is_seats(seats))
        return channel

    def take_value(self):
        """The next token as a value."""
        if self.has_more() and int_read(self.tokens[self.taken]) is None:
            return self.take_channel()
        return self.take_int()

    def take_rows(self, home):
        """The rows for a home, up to the end."""
        rows = []
        while self.has_more():
            rows.append(self.take_row(home))
        places = [place for place, channel, seat, value in rows]
        self.require(places == sorted(set(places)))
        return tuple(rows)

    def take_row(self, home):
        """A row for a home."""
        place = self.take_below(MOST_OFFERS)
        channel = self.take_channel()
        self.require(channel[0] == home)
        seat = self.take_below(channel[2])
        return (place, channel, seat, self.take_value())

    def take_meeting(self, to, home):
        """A meeting that a home tells to one of its machines."""
        channel = self.take_channel()
        self.require(channel[0] == home)
        parts = tuple([self.take_part() for seat in range(channel[2])])
        machines = [machine for machine, turn, place, value in parts]
        self.require(to in machines and len(set(machines)) == len(machines))
        return (channel, parts)

    def take_part(self):
        """A part of a meeting."""
        return (self.take_below(MOST_MACHINES), self.take_count(), self.take_below(MOST_OFFERS), self.take_value())

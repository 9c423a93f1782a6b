"""The machines of the distributed world."""

from fullseats.home import Home
from fullseats.party import Party
from fullseats.wire import TO_PARTY


class Machine(Party, Home):
    """The two sides of a machine. They share its number, and nothing else."""

    def __init__(self, program, number):
        """Creates both sides of the machine with this number."""
        Party.__init__(self, program, number)
        Home.__init__(self, program, number)

    def party_starts(self):
        """Starts the machine; returns the messages that are sent."""
        # Only the party has something to tell at the start: a home waits until it is told something.
        return super().party_starts()

    def handle(self, message):
        """Handles a message by the side for which it is meant; returns the messages that are sent."""
        if message.kind in TO_PARTY:
            return self.party_handles(message)
        return self.home_handles(message)

    def tick(self):
        """The messages that are sent again."""
        return self.party_ticks() + self.home_ticks()

    def view(self):
        """What both sides keep, as a dict."""
        party = self.party_view()
        home = self.home_view()
        return {**party, **home}

    def kept(self):
        """All that can change, as a tuple."""
        return (self.party_kept(), self.home_kept())

    def bring_back(self, kept):
        """Comes back to what was kept."""
        of_party, of_home = kept
        self.bring_party_back(of_party)
        self.bring_home_back(of_home)

"""The side of a machine that runs its process."""

from fullseats.messages import Message
from fullseats.states import first_state, state_behind


class Party:
    """The process of a machine, and what it has agreed to.

    All that is kept is replaced when it changes, never changed in place: so a copy of the attributes is enough
    to come back to an earlier time.
    """

    def __init__(self, program, number):
        """Evaluates the start process of the machine with this number."""
        self.program = program
        self.number = number
        self.state = first_state(program, number)
        self.log = ()
        self.bound = None
        self.waiting = ()
        # Under some homes: the turn and the rows that were told last, and whether they are heard.
        self.told = {}

    def party_starts(self):
        """Tells the first rows to every home for which there are some; returns the messages."""
        return self.tell_rows()

    def party_handles(self, message):
        """Handles a message; returns the messages that are sent."""
        if message.kind == "ask":
            attempt, turn = message.body
            return self.handle_ask((message.sender, attempt), turn)
        if message.kind == "free":
            return self.handle_free((message.sender, message.body[0]))
        if message.kind == "done":
            attempt, meeting = message.body
            return self.handle_done((message.sender, attempt), meeting)
        return self.handle_heard(message.sender, message.body[0])

    def party_ticks(self):
        """The messages that are sent again."""
        offers = [self.offers_to(home) for home in sorted(self.told) if not self.told[home][2]]
        return offers + ([] if self.bound is None else [self.answer("yes", self.bound)])

    def party_kept(self):
        """All that can change, as a tuple."""
        return (self.state, self.log, self.bound, self.waiting, self.told)

    def bring_party_back(self, kept):
        """Comes back to what was kept."""
        self.state, self.log, self.bound, self.waiting, self.told = kept

    def party_view(self):
        """What the party keeps, as a dict."""
        return {
            "turn": self.state.turn,
            "created": len(self.state.created),
            "menu": list(self.state.menu),
            "log": list(self.log),
            "bound": self.bound,
            "waiting": list(self.waiting),
            "told": [(home,) + self.told[home] for home in sorted(self.told)],
        }

    def handle_ask(self, pair, turn):
        """Handles the question of a home whether it agrees to an attempt in a turn."""
        if turn != self.state.turn:
            return [self.answer("no", pair)]
        if self.bound is None:
            self.bound = pair
        if self.bound == pair:
            return [self.answer("yes", pair)]
        if pair not in self.waiting:
            self.waiting = self.waiting + (pair,)
        return []

    def handle_free(self, pair):
        """Handles the end of an attempt without a meeting."""
        if self.bound != pair:
            return []
        if not self.waiting:
            self.bound = None
            return []
        self.bound = self.waiting[0]
        self.waiting = self.waiting[1:]
        return [self.answer("yes", self.bound)]

    def handle_done(self, pair, meeting):
        """Handles the decision of an attempt: the meeting takes place."""
        if self.bound != pair:
            return []
        self.log = self.log + (meeting,)
        self.state = state_behind(self.program, self.state, meeting)
        refusals = [self.answer("no", other) for other in self.waiting]
        self.waiting = ()
        self.bound = None
        return refusals + self.tell_rows()

    def handle_heard(self, home, turn):
        """Handles that a home has heard the rows of a turn."""
        if home in self.told and self.told[home][0] == turn:
            rows = self.told[home][1]
            others = {other: self.told[other] for other in self.told if other != home}
            # Empty rows that are heard need not be told again, whatever comes.
            self.told = {**others, home: (turn, rows, True)} if rows else others
        return []

    def tell_rows(self):
        """Tells the present rows to every home that must hear of them; returns the messages."""
        by_home = {home: () for home in self.told}
        for row in self.state.rows:
            home = row[1][0]
            by_home[home] = by_home.get(home, ()) + (row,)
        self.told = {home: (self.state.turn, by_home[home], False) for home in by_home}
        return [self.offers_to(home) for home in sorted(self.told)]

    def offers_to(self, home):
        """The message that tells a home the rows that are noted for it."""
        turn, rows, heard = self.told[home]
        return Message("offers", home, self.number, (turn, rows))

    def answer(self, kind, pair):
        """The answer to an attempt of a home."""
        home, attempt = pair
        return Message(kind, home, self.number, (attempt,))

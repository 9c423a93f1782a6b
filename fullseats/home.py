"""The side of a machine that coordinates the channels that it created."""

from fullseats.errors import NoSeating
from fullseats.meeting import machines_in, meeting_on
from fullseats.messages import Message


class Home:
    """What the home of a machine has heard, and its attempts.

    All that is kept is replaced when it changes, never changed in place: so a copy of the attributes is enough
    to come back to an earlier time.
    """

    def __init__(self, program, number):
        """The home of the machine with this number. It needs nothing of the program: the parties tell it all."""
        self.number = number
        # Under some machines: a turn and rows.
        self.book = {}
        # Under open attempts: a meeting, and how many machines have said yes.
        self.attempts = {}
        # Under decided attempts: a meeting, and the machines that have not moved on, ascending.
        self.decided = {}
        self.latest = 0

    def opens(self, channel, seating):
        """Opens an attempt for a channel and a seating; returns the messages that are sent."""
        meeting = meeting_on(channel, seating, self.offered())
        if meeting is None or channel[0] != self.number:
            raise NoSeating(channel)
        self.latest += 1
        return self.ask_next(self.latest, meeting, 0)

    def home_handles(self, message):
        """Handles a message; returns the messages that are sent."""
        if message.kind == "offers":
            turn, rows = message.body
            return self.handle_offers(message.sender, turn, rows)
        if message.kind == "yes":
            return self.handle_yes(message.sender, message.body[0])
        return self.handle_no(message.sender, message.body[0])

    def home_ticks(self):
        """The messages that are sent again."""
        asks = [self.ask_to(attempt) for attempt in sorted(self.attempts)]
        return asks + [
            self.done_to(machine, attempt) for attempt in sorted(self.decided) for machine in self.decided[attempt][1]
        ]

    def home_kept(self):
        """All that can change, as a tuple."""
        return (self.book, self.attempts, self.decided, self.latest)

    def bring_home_back(self, kept):
        """Comes back to what was kept."""
        self.book, self.attempts, self.decided, self.latest = kept

    def home_view(self):
        """What the home keeps, as a dict."""
        return {
            "book": [(machine,) + self.book[machine] for machine in sorted(self.book)],
            "attempts": [(attempt,) + self.attempts[attempt] for attempt in sorted(self.attempts)],
            "decided": [(attempt,) + self.decided[attempt] for attempt in sorted(self.decided)],
        }

    def offered(self):
        """The book without the machines that are in an open attempt."""
        busy = [machine for attempt in self.attempts for machine in machines_in(self.attempts[attempt][0])]
        return {machine: self.book[machine] for machine in self.book if machine not in busy}

    def handle_offers(self, sender, turn, rows):
        """Handles the rows of a machine in a turn."""
        known = self.book[sender][0] if sender in self.book else -1
        if known > turn:
            return []
        if known < turn:
            self.book = {**self.book, sender: (turn, rows)}
            self.decided = decided_without(self.decided, sender, turn)
        return [Message("heard", sender, self.number, (turn,))]

    def handle_yes(self, sender, attempt):
        """Handles that a machine agrees to an attempt."""
        if attempt in self.attempts:
            return self.agree(attempt) if self.asked(attempt) == sender else []
        if attempt in self.decided and sender in self.decided[attempt][1]:
            return [self.done_to(sender, attempt)]
        return [self.free_to(sender, attempt)]

    def handle_no(self, sender, attempt):
        """Handles that a machine does not agree to an attempt."""
        if attempt not in self.attempts or self.asked(attempt) != sender:
            return []
        meeting, agreed = self.attempts[attempt]
        if self.book[sender][0] == turn_in(meeting, sender):
            self.book = with_empty_rows(self.book, [sender])
        self.attempts = without(self.attempts, attempt)
        return [self.free_to(machine, attempt) for machine in sorted(machines_in(meeting))[:agreed]]

    def agree(self, attempt):
        """Notes that the machine that is being asked has said yes, and asks the next one or decides."""
        meeting, agreed = self.attempts[attempt]
        machines = sorted(machines_in(meeting))
        if agreed + 1 < len(machines):
            return self.ask_next(attempt, meeting, agreed + 1)
        self.attempts = without(self.attempts, attempt)
        self.decided = {**self.decided, attempt: (meeting, tuple(machines))}
        self.book = with_empty_rows(self.book, machines)
        return [self.done_to(machine, attempt) for machine in machines]

    def ask_next(self, attempt, meeting, agreed):
        """Notes how many machines have said yes to an open attempt, and asks the one behind them."""
        self.attempts = {**self.attempts, attempt: (meeting, agreed)}
        return [self.ask_to(attempt)]

    def asked(self, attempt):
        """The machine that is being asked in an open attempt."""
        meeting, agreed = self.attempts[attempt]
        return sorted(machines_in(meeting))[agreed]

    def ask_to(self, attempt):
        """The question to the machine that is being asked in an open attempt."""
        asked = self.asked(attempt)
        return Message("ask", asked, self.number, (attempt, turn_in(self.attempts[attempt][0], asked)))

    def done_to(self, machine, attempt):
        """The message that tells a machine the meeting of a decided attempt."""
        return Message("done", machine, self.number, (attempt, self.decided[attempt][0]))

    def free_to(self, machine, attempt):
        """The message that an attempt has ended for a machine."""
        return Message("free", machine, self.number, (attempt,))


def turn_in(meeting, taker):
    """The turn that a machine has in a meeting in which it takes part."""
    channel, parts = meeting
    return [turn for machine, turn, place, value in parts if machine == taker][0]


def without(attempts, gone):
    """The attempts without one of them."""
    return {attempt: attempts[attempt] for attempt in attempts if attempt != gone}


def with_empty_rows(book, machines):
    """The book with the turns of some machines, but without their rows."""
    emptied = {machine: (book[machine][0], ()) for machine in machines}
    return {**book, **emptied}


def decided_without(decided, mover, reached):
    """The decided attempts when a machine has reached a turn, without those that all their machines have left."""
    kept = {}
    for attempt in decided:
        meeting, left = decided[attempt]
        if mover in left and turn_in(meeting, mover) < reached:
            left = tuple([machine for machine in left if machine != mover])
        if left:
            kept[attempt] = (meeting, left)
    return kept

"""Sequences of meetings, and logs that are joined to such a sequence."""

from fullseats.basics import is_index, is_int
from fullseats.errors import Dependent, NoJoin, NoMeeting
from fullseats.meeting import machines_in


class Run:
    """A sequence of meetings, which need not be a run of any program; it is never changed."""

    def __init__(self, meetings):
        """Keeps the meetings, a list or tuple."""
        self.rows = tuple(meetings)

    @staticmethod
    def empty():
        """The sequence without meetings."""
        return Run([])

    def __len__(self):
        return len(self.rows)

    def __iter__(self):
        return iter(self.rows)

    def __getitem__(self, at):
        """The meeting at this index."""
        if not is_index(at, len(self.rows)):
            raise NoMeeting(at)
        return self.rows[at]

    def __eq__(self, other):
        return isinstance(other, Run) and order_free(self.rows) == order_free(other.rows)

    def __add__(self, other):
        """The meetings of both, one sequence behind the other."""
        if not isinstance(other, Run):
            return NotImplemented
        return Run(self.rows + other.rows)

    def __floordiv__(self, other):
        """The meetings in which a machine takes part."""
        if not is_int(other):
            return NotImplemented
        return Run([meeting for meeting in self.rows if other in machines_in(meeting)])

    def __sub__(self, other):
        """The meetings in which a machine does not take part."""
        if not is_int(other):
            return NotImplemented
        return Run([meeting for meeting in self.rows if other not in machines_in(meeting)])

    def depends(self, j, i):
        """Whether meeting j depends on the earlier meeting i."""
        reached = {machine: True for machine in machines_in(self[i])}
        for meeting in self.rows[i + 1:j]:
            if takes_any(meeting, reached):
                reached.update({machine: True for machine in machines_in(meeting)})
        return takes_any(self[j], reached)

    def exchanged(self, k):
        """A new sequence in which the meetings k and k + 1 are exchanged."""
        later = self[k + 1]
        earlier = self[k]
        if takes_any(later, machines_in(earlier)):
            raise Dependent(k)
        return Run(self.rows[:k] + (later, earlier) + self.rows[k + 2:])


def takes_any(meeting, machines):
    """Whether one of the machines takes part in a meeting."""
    return any([machine in machines for machine in machines_in(meeting)])


def order_free(meetings):
    """The meetings in a form and an order that do not depend on the order in which they are passed."""
    return sorted([comparable(meeting) for meeting in meetings])


def comparable(meeting):
    """A form of a meeting that can be compared by order: an integer and a channel cannot."""
    channel, parts = meeting
    told = [(machine, turn, place, (isinstance(value, tuple), value)) for machine, turn, place, value in parts]
    return (channel, tuple(told))


def joined(logs):
    """The join of logs that fit together."""
    check_entries(logs)
    check_turns(logs)
    check_takers(logs)
    taken = [0] * len(logs)
    meetings = []
    while ready := ready_meetings(logs, taken):
        # Different ready meetings share no machine: so the channel or the first machine tells which one is less.
        # Their values, which need not be all of one kind, are never compared by order.
        meetings.append(min(ready))
        for machine in machines_in(meetings[-1]):
            taken[machine] += 1
    # What is left depends on itself.
    if any([taken[machine] < len(logs[machine]) for machine in range(len(logs))]):
        raise NoJoin()
    return Run(meetings)


def check_entries(logs):
    """Checks that every entry is a meeting of different machines, and of its own machine in the right turn."""
    for owner, log in enumerate(logs):
        for at, (channel, parts) in enumerate(log):
            machines = [machine for machine, turn, place, value in parts]
            own_turns = [turn for machine, turn, place, value in parts if machine == owner]
            if own_turns != [at] or len(set(machines)) != len(machines):
                raise NoJoin()


def check_turns(logs):
    """Checks that every part fits the log of its machine."""
    for log in logs:
        for meeting in log:
            channel, parts = meeting
            for machine, turn, place, value in parts:
                if not is_index(machine, len(logs)) or not log_fits(logs[machine], turn, meeting):
                    raise NoJoin()


def check_takers(logs):
    """Checks that different meetings never contain the same machine with the same turn."""
    takers = {}
    for log in logs:
        for meeting in log:
            channel, parts = meeting
            for machine, turn, place, value in parts:
                if takers.setdefault((machine, turn), meeting) != meeting:
                    raise NoJoin()


def log_fits(log, turn, meeting):
    """Whether a log has the meeting in this turn, or ends just before it."""
    return turn == len(log) or is_index(turn, len(log)) and log[turn] == meeting


def ready_meetings(logs, taken):
    """The meetings of which no machine has an earlier one left, where so many of each log are taken already."""
    heads = [log[taken[owner]] for owner, log in enumerate(logs) if taken[owner] < len(log)]
    return [
        (channel, parts) for channel, parts in heads
        if all([taken[machine] == turn for machine, turn, place, value in parts])
    ]

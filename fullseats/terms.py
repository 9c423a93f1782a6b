"""Processes and nets."""

from fullseats.basics import are_names, is_int, is_name, is_operand, is_seats
from fullseats.errors import BadTerm

MOST_OPERANDS = 4
MOST_OFFERS = 6
MOST_DEPTH = 20
MOST_SIZE = 400
MOST_MACHINES = 6


def demand(allowed, field):
    """Raises BadTerm for the field unless it is allowed."""
    if not allowed:
        raise BadTerm(field)


def inner_processes(kind, parts):
    """The processes that a process of this kind contains directly."""
    if kind == "choice":
        return [offer[-1] for offer in parts]
    return [part for part in parts if isinstance(part, Process)]


def size_of(kind, parts):
    """The size of a process of this kind."""
    # Of a choice, each offer counts, but stop counts as well.
    own = max(1, len(parts)) if kind == "choice" else 1
    return own + sum([process.size for process in inner_processes(kind, parts)])


def depth_of(kind, parts):
    """The depth of a process of this kind."""
    return 1 + max([process.depth for process in inner_processes(kind, parts)], default=0)


class Process:
    """A process of any of the four kinds; it is made once and never changed."""

    def __init__(self, kind, parts):
        """Keeps parts that are allowed one by one; their depth and size are checked here."""
        self.kind = kind
        self.parts = parts
        self.depth = depth_of(kind, parts)
        self.size = size_of(kind, parts)
        demand(self.depth <= MOST_DEPTH, "depth")
        demand(self.size <= MOST_SIZE, "size")

    @staticmethod
    def stop():
        """The choice without offers."""
        return Process("choice", ())

    @staticmethod
    def offer(channel, seat, seats, operand, names, rest):
        """A choice with one offer."""
        demand(is_name(channel), "channel")
        # What a seat may be depends on the number of seats.
        demand(is_seats(seats), "seats")
        demand(is_int(seat) and 0 <= seat < seats, "seat")
        demand(is_operand(operand), "operand")
        demand(len(names) == seats - 1 and are_names(names), "names")
        return Process("choice", ((channel, seat, seats, operand, tuple(names), rest),))

    @staticmethod
    def new(name, seats, rest):
        """A process that creates a channel."""
        demand(is_name(name), "name")
        demand(is_seats(seats), "seats")
        return Process("new", (name, seats, rest))

    @staticmethod
    def when(left, right, yes, no):
        """An if process."""
        demand(is_operand(left), "left")
        demand(is_operand(right), "right")
        return Process("if", (left, right, yes, no))

    @staticmethod
    def call(name, operands):
        """A process that continues as the body of a definition."""
        demand(is_name(name), "name")
        allowed = len(operands) <= MOST_OPERANDS and all([is_operand(part) for part in operands])
        demand(allowed, "operands")
        return Process("call", (name, tuple(operands)))

    def __eq__(self, other):
        return isinstance(other, Process) and self.kind == other.kind and self.parts == other.parts

    def __add__(self, other):
        """The choice between the offers of both."""
        demand(is_choice(self) and is_choice(other), "choice")
        offers = self.parts + other.parts
        demand(len(offers) <= MOST_OFFERS, "offers")
        return Process("choice", offers)

    def __or__(self, other):
        """The net of this process and what stands behind it."""
        if not isinstance(other, (Process, Net)):
            return NotImplemented
        return Net((self,) + members_of(other))

    def __rmul__(self, other):
        """The net of this process, repeated."""
        if not is_int(other):
            return NotImplemented
        return Net(repeated(other, (self,)))


class Net:
    """A sequence of processes."""

    def __init__(self, processes):
        """Keeps the processes, a list or tuple."""
        demand(len(processes) <= MOST_MACHINES, "machines")
        self.members = tuple(processes)

    def __len__(self):
        return len(self.members)

    def __iter__(self):
        return iter(self.members)

    def __getitem__(self, at):
        # A negative index does not exist: it never counts from the end.
        if not is_int(at) or at < 0:
            raise IndexError("a net has no such index")
        return self.members[at]

    def __eq__(self, other):
        return isinstance(other, Net) and self.members == other.members

    def __or__(self, other):
        """The net of both, one behind the other."""
        if not isinstance(other, (Process, Net)):
            return NotImplemented
        return Net(self.members + members_of(other))

    def __ior__(self, other):
        """Extends this net by what comes behind it."""
        if not isinstance(other, (Process, Net)):
            return NotImplemented
        members = self.members + members_of(other)
        demand(len(members) <= MOST_MACHINES, "machines")
        self.members = members
        return self

    def __rmul__(self, other):
        """The net of several copies of this one."""
        if not is_int(other):
            return NotImplemented
        return Net(repeated(other, self.members))


def is_choice(term):
    """Whether term is a choice."""
    return isinstance(term, Process) and term.kind == "choice"


def members_of(term):
    """The processes of a net, or a process alone, as a tuple."""
    if isinstance(term, Net):
        return term.members
    return (term,)


def repeated(times, members):
    """The members so many times, or so often that there are too many for a net."""
    # A longer tuple need not be built: seven copies are refused already, unless they are empty.
    return members * max(0, min(times, MOST_MACHINES + 1))

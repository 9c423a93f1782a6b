"""The machines of a program and the network between them."""

from fullseats.basics import is_index, is_int
from fullseats.errors import (
    AlreadyDriven, BadSetting, NetworkFull, NoMachine, NoMessage, NoSeating, NotDone, SeatsError,
)
from fullseats.machine import Machine
from fullseats.meeting import bar_among, first_step, seating_among
from fullseats.runs import Run
from fullseats.states import channels_in

MOST_ROOM = 1000


class World:
    """A program that is run by machines which only send messages to each other."""

    ROOM = 400

    def __init__(self, program):
        """Starts all machines of the program."""
        self.crew = tuple([Machine(program, number) for number in range(program.machines)])
        # Tuples, which are replaced: so it costs nothing to keep what they were.
        self.network = ()
        self.decisions = ()
        self.limit = World.ROOM
        self.driving = False
        for machine in self.crew:
            self.send(machine.party_starts())

    @property
    def driven(self):
        """Whether the world is being driven."""
        return self.driving

    @property
    def room(self):
        """How many messages the network must have so that none can be repeated."""
        return self.limit

    @room.setter
    def room(self, value):
        self.set_room(value)

    def set_room(self, value):
        """Sets the room."""
        if not is_int(value) or not 1 <= value <= MOST_ROOM:
            raise BadSetting(value)
        self.limit = value

    def perform(self, deed):
        """Performs a deed."""
        word = deed[0]
        if word == "deliver":
            self.deliver(deed[1])
        elif word == "drop":
            self.take_out(deed[1])
        elif word == "repeat":
            self.repeat(deed[1])
        elif word == "tick":
            self.tick_machines([self.machine_at(deed[1])])
        elif word == "tick_all":
            self.tick_machines(self.crew)
        else:
            self.open_attempt(deed[1], deed[2])

    def drive(self, policy, most):
        """Performs the deeds that a policy returns, but at most so many; returns their number."""
        self.begin_driving()
        count = 0
        try:
            while count < most and (deed := policy(self)) is not None:
                self.perform(deed)
                count += 1
        finally:
            self.driving = False
        return count

    def all_or_none(self, deeds):
        """Performs all deeds in order, or changes nothing."""
        self.begin_driving()
        try:
            self.perform_all(deeds)
        finally:
            self.driving = False

    def messages(self):
        """The written messages of the network."""
        return [message.written() for message in self.network]

    def message_count(self):
        """The number of messages in the network."""
        return len(self.network)

    def decided_run(self):
        """The meetings that have been decided."""
        return Run(self.decisions)

    def view(self, machine):
        """What a machine keeps, as a dict."""
        return self.machine_at(machine).view()

    def all_channels(self):
        """All existing channels, ascending."""
        return channels_in([machine.state for machine in self.crew])

    def first_on(self, channel):
        """The first seating of a channel according to the book of its home, or None."""
        return seating_among(channel, self.offered_to(channel[0]))

    def bar_on(self, channel):
        """The least bar of a channel according to the book of its home, or None."""
        return bar_among(channel, self.offered_to(channel[0]))

    def next_attempt(self):
        """The deed that attempts the first seating of the first channel that has one, or None."""
        for machine in self.crew:
            step = first_step(machine.offered())
            if step is not None:
                return ("attempt",) + step
        return None

    def unanswered(self, machine):
        """Whether a machine has something unanswered."""
        return len(self.machine_at(machine).tick()) > 0

    def any_unanswered(self):
        """Whether any machine has something unanswered."""
        return any([len(machine.tick()) > 0 for machine in self.crew])

    def at_rest(self):
        """Whether nothing is under way and nothing can begin."""
        return not self.network and not self.any_unanswered() and self.next_attempt() is None

    def kept(self):
        """All that deeds can change, as a tuple."""
        return (self.network, self.decisions, [machine.kept() for machine in self.crew])

    def bring_back(self, kept):
        """Comes back to what was kept."""
        self.network, self.decisions, of_machines = kept
        for machine, of_machine in zip(self.crew, of_machines):
            machine.bring_back(of_machine)

    def begin_driving(self):
        """Notes that the world is being driven from now on."""
        if self.driving:
            raise AlreadyDriven()
        self.driving = True

    def perform_all(self, deeds):
        """Performs all deeds in order; if one is not possible, it takes back those before it."""
        kept = self.kept()
        for place, deed in enumerate(deeds):
            try:
                self.perform(deed)
            except SeatsError as why:
                self.bring_back(kept)
                raise NotDone(place) from why

    def machine_at(self, number):
        """The machine with this number."""
        if not is_index(number, len(self.crew)):
            raise NoMachine(number)
        return self.crew[number]

    def offered_to(self, home):
        """What the book of a home says of the machines that are in no open attempt there."""
        return self.crew[home].offered() if is_index(home, len(self.crew)) else {}

    def message_at(self, at):
        """The message at an index of the network."""
        if not is_index(at, len(self.network)):
            raise NoMessage(at)
        return self.network[at]

    def send(self, messages):
        """Appends messages to the network."""
        self.network = self.network + tuple(messages)

    def take_out(self, at):
        """Removes the message at an index; returns it."""
        message = self.message_at(at)
        self.network = self.network[:at] + self.network[at + 1:]
        return message

    def deliver(self, at):
        """Removes the message at an index, and lets the machine to which it goes handle it."""
        message = self.take_out(at)
        machine = self.crew[message.to]
        before = machine.decided
        self.send(machine.handle(message))
        # A home does not tell that it decides an attempt, but it keeps what it has decided.
        for attempt in machine.decided:
            if attempt not in before:
                self.decisions = self.decisions + (machine.decided[attempt][0],)

    def repeat(self, at):
        """Appends a copy of the message at an index."""
        message = self.message_at(at)
        if len(self.network) >= self.limit:
            raise NetworkFull(self.limit)
        self.send([message])

    def tick_machines(self, machines):
        """Lets some machines send again what is unanswered."""
        for machine in machines:
            self.send(machine.tick())

    def open_attempt(self, channel, seating):
        """Opens an attempt at the home of a channel."""
        home = channel[0]
        if not is_index(home, len(self.crew)):
            raise NoSeating(channel)
        self.send(self.crew[home].opens(channel, seating))

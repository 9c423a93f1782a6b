"""The plain machine, which performs one meeting after another."""

from fullseats.basics import is_index
from fullseats.errors import NoMachine, NoSeating
from fullseats.meeting import bar_among, first_step, meeting_on, seating_among
from fullseats.runs import Run
from fullseats.states import channels_in, first_states, offered_in, states_behind


class Plain:
    """The machines of a program, and the meetings that they have performed."""

    def __init__(self, program):
        """Lets every machine evaluate its start process."""
        self.program = program
        self.states = first_states(program)
        self.performed = []

    def state_of(self, machine):
        """The state of a machine."""
        if not is_index(machine, len(self.states)):
            raise NoMachine(machine)
        return self.states[machine]

    def turn_of(self, machine):
        """The number of meetings in which a machine has taken part."""
        return self.state_of(machine).turn

    def menu_of(self, machine):
        """The menu of a machine, a list of tuples."""
        return list(self.state_of(machine).menu)

    def created_by(self, machine):
        """The number of channels that a machine has created."""
        return len(self.state_of(machine).created)

    def all_channels(self):
        """All existing channels, ascending."""
        return channels_in(self.states)

    def first_on(self, channel):
        """The first seating of a channel, or None."""
        return seating_among(channel, offered_in(self.states))

    def bar_on(self, channel):
        """The least bar of a channel, or None."""
        return bar_among(channel, offered_in(self.states))

    def meet(self, channel, seating):
        """Performs the meeting on a channel with a seating, and returns its record."""
        meeting = meeting_on(channel, seating, offered_in(self.states))
        if meeting is None:
            raise NoSeating(channel)
        self.states = states_behind(self.program, self.states, meeting)
        self.performed.append(meeting)
        return meeting

    def stuck(self):
        """Whether no meeting is possible on any channel."""
        return first_step(offered_in(self.states)) is None

    def meetings(self):
        """The meetings so far."""
        return Run(self.performed)

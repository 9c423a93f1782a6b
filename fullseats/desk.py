"""A desk at which a world is told commands, one line each."""

from fullseats.commands import CommandReader
from fullseats.errors import BadCommand, NetworkFull, NoMachine, NoMessage, NoSeating, NothingToUndo
from fullseats.policies import Road
from fullseats.values import channel_text, value_text
from fullseats.world import World

# The commands that only tell something, and that can be told again and again.
QUESTIONS = ("network", "run", "log", "bars")


class Desk:
    """A world, and what it was before each command that can be undone."""

    def __init__(self, program):
        """Creates the world of the program."""
        self.world = World(program)
        self.earlier = []

    def tell(self, line):
        """Performs a command; returns its answer, a list of lines."""
        try:
            return self.obey(CommandReader(line).take_command())
        except BadCommand:
            return ["refused BadCommand"]
        except NoMessage:
            return ["refused NoMessage"]
        except NetworkFull:
            return ["refused NetworkFull"]
        except NoMachine:
            return ["refused NoMachine"]
        except NoSeating:
            return ["refused NoSeating"]
        except NothingToUndo:
            return ["refused NothingToUndo"]

    def obey(self, command):
        """The answer to a command that has been read."""
        if command[0] in QUESTIONS:
            return self.answer_to(command)
        if command[0] == "undo":
            self.undo()
        else:
            self.change(command)
        return [f"ok {self.world.message_count()} {len(self.world.decided_run())}"]

    def change(self, command):
        """Performs a command that can be undone."""
        kept = self.world.kept()
        if command[0] == "drive":
            self.world.drive(Road(), command[1])
        else:
            self.world.perform(command)
        self.earlier.append(kept)

    def undo(self):
        """Brings the world back to what it was before the last command that is not undone yet."""
        if not self.earlier:
            raise NothingToUndo()
        self.world.bring_back(self.earlier.pop())

    def answer_to(self, command):
        """The answer to a command that only tells something."""
        if command[0] == "network":
            return self.world.messages()
        if command[0] == "run":
            return meeting_lines(self.world.decided_run())
        if command[0] == "log":
            return meeting_lines(self.world.view(command[1])["log"])
        return [bar_line(channel, self.world.bar_on(channel)) for channel in self.world.all_channels()]


def bar_line(channel, bar):
    """The line of a channel with its least bar."""
    return f"{channel_text(channel)} {bar_text(bar)}"


def bar_text(bar):
    """The written form of a bar, or of None."""
    return "-" if bar is None else ",".join([str(seat) for seat in bar])


def meeting_lines(meetings):
    """A line for each meeting, with its index."""
    return [f"{at:>4} {channel_text(channel):<9}{parts_text(parts)}" for at, (channel, parts) in enumerate(meetings)]


def parts_text(parts):
    """The written form of the parts of a meeting, with a space before each."""
    return "".join([f" {machine}.{turn}.{place}={value_text(value)}" for machine, turn, place, value in parts])

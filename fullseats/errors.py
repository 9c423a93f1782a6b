"""The errors that the program raises.

No message tells the argument of its error: Python refuses to write an integer of thousands of digits,
and the arguments may be of any size.
"""


class SeatsError(ValueError):
    """The base class of all errors of the program."""


class BadTerm(SeatsError):
    """A part of a term is not allowed."""

    def __init__(self, field):
        super().__init__("a part of a term is not allowed")
        self.field = field


class BadText(SeatsError):
    """A line of a text has no form that can be read."""

    def __init__(self, line):
        super().__init__("a line is bad")
        self.line = line


class NoName(SeatsError):
    """A name has no meaning where it is used."""

    def __init__(self, name):
        super().__init__("there is no such name")
        self.name = name


class WrongCount(SeatsError):
    """A call passes another number of operands than its definition takes."""

    def __init__(self, name):
        super().__init__("a call passes a wrong number of operands")
        self.name = name


class Endless(SeatsError):
    """A definition can lead back to itself without a meeting."""

    def __init__(self, name):
        super().__init__("a definition leads back to itself")
        self.name = name


class Clash(SeatsError):
    """Two books define a name differently."""

    def __init__(self, name):
        super().__init__("a name is defined differently")
        self.name = name


class NoMachine(SeatsError):
    """There is no such machine."""

    def __init__(self, machine):
        super().__init__("there is no such machine")
        self.machine = machine


class NoSeating(SeatsError):
    """A meeting on a channel is not possible with a seating."""

    def __init__(self, channel):
        super().__init__("the channel has no such seating")
        self.channel = channel


class NoMeeting(SeatsError):
    """There is no meeting at this index."""

    def __init__(self, place):
        super().__init__("there is no such meeting")
        self.place = place


class Dependent(SeatsError):
    """Two neighbours cannot be exchanged."""

    def __init__(self, place):
        super().__init__("a meeting depends on the one before")
        self.place = place


class NoRun(SeatsError):
    """A list of meetings is not a run of the program."""

    def __init__(self, place):
        super().__init__("the meetings are not a run")
        self.place = place


class NoJoin(SeatsError):
    """Logs do not fit together."""


class BadMessage(SeatsError):
    """A text is not the written form of a message."""

    def __init__(self, text):
        super().__init__("no message is written so")
        self.text = text


class NoMessage(SeatsError):
    """There is no message at this index of the network."""

    def __init__(self, place):
        super().__init__("there is no such message")
        self.place = place


class NetworkFull(SeatsError):
    """The network has no room for a repeated message."""

    def __init__(self, limit):
        super().__init__("the network is full")
        self.limit = limit


class BadSetting(SeatsError):
    """A setting is not allowed."""

    def __init__(self, value):
        super().__init__("the setting is not allowed")
        self.value = value


class AlreadyDriven(SeatsError):
    """The world is being driven."""


class NotDone(SeatsError):
    """One of several deeds raised an error, and none is performed."""

    def __init__(self, place):
        super().__init__("a deed is not possible")
        self.place = place


class NothingToUndo(SeatsError):
    """There is no command that can be undone."""


class BadCommand(SeatsError):
    """A line is no command."""

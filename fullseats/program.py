"""Programs: declared channels, a book and a net of start processes."""

from fullseats.basics import is_int, is_name, is_seats
from fullseats.book import Book
from fullseats.errors import Endless, NoMachine, NoName, WrongCount
from fullseats.terms import Net, demand

MOST_CHANNELS = 8


class Program:
    """A program whose parts fit together; it is made once and never changed."""

    def __init__(self, channels, book, net):
        """Keeps the declared channels, a list of tuples, the book and the net of start processes."""
        demand(len(net) > 0, "machines")
        check_channels(channels, len(net))
        check_names([name for name, seats, machine in channels], book, net)
        check_ends(book)
        self.machines = len(net)
        self.channels = tuple(channels)
        self.by_channel_name = numbered_channels(channels)
        # Books and nets can be changed by others, so the program keeps its own.
        self.book = Book() | book
        self.net = Net(list(net))

    def __eq__(self, other):
        return (
            isinstance(other, Program)
            and self.channels == other.channels and self.book == other.book and self.net == other.net
        )

    def declared(self):
        """The declared channels as a list of tuples, in order."""
        return list(self.channels)

    def definitions(self):
        """A new book with the definitions, in order."""
        return Book() | self.book

    def processes(self):
        """A new net of the start processes, in order."""
        return Net(list(self.net))

    def channel_of(self, name):
        """The channel of a declared name."""
        if name not in self.by_channel_name:
            raise NoName(name)
        return self.by_channel_name[name]


def check_channels(channels, machines):
    """Checks the declared channels of a program with so many machines."""
    demand(len(channels) <= MOST_CHANNELS, "channels")
    earlier = []
    for name, seats, machine in channels:
        demand(is_name(name) and name not in earlier, "name")
        demand(is_seats(seats), "seats")
        if not is_int(machine) or not 0 <= machine < machines:
            raise NoMachine(machine)
        earlier.append(name)


def numbered_channels(channels):
    """The channels of all declared names, which count from 0 for each machine."""
    by_name = {}
    created = {}
    for name, seats, machine in channels:
        number = created.get(machine, 0)
        by_name[name] = (machine, number, seats)
        created[machine] = number + 1
    return by_name


def check_names(channel_names, book, net):
    """Checks the names and the calls in all definitions and all start processes."""
    for name in book.names():
        definition = book[name]
        check_process(definition.body, [*channel_names, *definition.params], book)
    for process in net:
        check_process(process, channel_names, book)


def check_process(process, bound, book):
    """Checks the names and the calls in a process that stands where some names are bound."""
    if process.kind == "choice":
        for channel, seat, seats, operand, names, rest in process.parts:
            check_operands([channel, operand], bound)
            check_process(rest, [*bound, *names], book)
    elif process.kind == "new":
        name, seats, rest = process.parts
        check_process(rest, [*bound, name], book)
    elif process.kind == "if":
        left, right, yes, no = process.parts
        check_operands([left, right], bound)
        check_process(yes, bound, book)
        check_process(no, bound, book)
    else:
        check_call(process, bound, book)


def check_call(call, bound, book):
    """Checks that a call fits its definition, and its operands."""
    name, operands = call.parts
    if name not in book:
        raise NoName(name)
    if len(operands) != len(book[name].params):
        raise WrongCount(name)
    check_operands(operands, bound)


def check_operands(operands, bound):
    """Checks that every name among the operands is bound."""
    for operand in operands:
        if isinstance(operand, str) and operand not in bound:
            raise NoName(operand)


def check_ends(book):
    """Checks that no definition can lead back to itself without a meeting."""
    calls = {name: direct_calls(book[name].body) for name in book}
    for name in book.names():
        if name in names_behind(name, calls):
            raise Endless(name)


def direct_calls(process):
    """The names of the definitions that a process calls before it reaches a choice."""
    if process.kind == "call":
        return [process.parts[0]]
    if process.kind == "new":
        return direct_calls(process.parts[2])
    if process.kind == "if":
        return direct_calls(process.parts[2]) + direct_calls(process.parts[3])
    return []


def names_behind(start, calls):
    """The names of all definitions to which one or more direct calls lead from a definition."""
    found = []
    left = list(calls[start])
    while left:
        name = left.pop()
        if name not in found:
            found.append(name)
            left.extend(list(calls[name]))
    return found

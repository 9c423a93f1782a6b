"""What the tests share."""

import itertools
import random
import unittest

from fullseats.book import Book, Definition
from fullseats.errors import (
    BadMessage, BadSetting, BadTerm, BadText, Dependent, Endless, NetworkFull, NoMachine, NoMeeting, NoMessage, NoName,
    NoRun, NoSeating, NotDone, WrongCount,
)
from fullseats.plain import Plain
from fullseats.program import Program
from fullseats.terms import Net, Process
from fullseats.texts import program_read
from fullseats.world import World

ATTRIBUTES = {
    BadMessage: "text", BadSetting: "value", BadTerm: "field", BadText: "line", Dependent: "place", Endless: "name",
    NetworkFull: "limit", NoMachine: "machine", NoMeeting: "place", NoMessage: "place", NoName: "name", NoRun: "place",
    NoSeating: "channel", NotDone: "place", WrongCount: "name",
}
# More digits than Python itself is willing to write.
LARGE = 10 ** 5000

GOOD_NAMES = ["a", "z", "m5", "a0", "z9", "abcdefgh", "a2345678", "stops", "sto", "news", "iff", "ats", "starts"]
RESERVED = ["stop", "new", "if", "then", "else", "put", "get", "channel", "at", "define", "start"]
BAD_NAMES = RESERVED + [
    "", "abcdefghi", "a23456789", "5", "5a", "0abc", "A", "Abc", "aB", "abcD", "a_b", "_a", "a-b", "-a", "a b", " a",
    "a ", "a\n", "\n", "a.b", "a:b", "a(", "\u00e9", "a\u00e9", "\u00df", "\u0430", "a\u0660", "a\u00b2", "a\x00",
    "{", "`", "a/", "a:", "a`", "a{", "a" * 1000,
]
THIRTY_DIGITS = 10 ** 30 - 1
GOOD_OPERANDS = GOOD_NAMES + [0, 1, -1, 400, THIRTY_DIGITS, -THIRTY_DIGITS, 10 ** 29]
BAD_OPERANDS = BAD_NAMES + [THIRTY_DIGITS + 1, -THIRTY_DIGITS - 1, 10 ** 100, -10 ** 100, True, False]

STOP = Process.stop()


def offer(channel="a", seat=0, seats=1, operand=5, names=(), rest=STOP):
    """A choice with one offer, most of which a test does not care about."""
    return Process.offer(channel, seat, seats, operand, names, rest)


def choice(count):
    """A choice with so many different offers."""
    made = Process.stop()
    for operand in range(count):
        made = made + offer(operand=operand)
    return made


def tower(depth):
    """A process of this depth, and of the same size."""
    made = Process.stop()
    for level in range(depth - 1):
        made = Process.new("a", 1, made)
    return made


def sized(size):
    """A process of this size, and of small depth."""
    if size == 1:
        return Process.stop()
    if size == 2:
        return Process.new("a", 1, Process.stop())
    half = (size - 1) // 2
    return Process.when(0, 0, sized(half), sized(size - 1 - half))


def numbered(count, first=0):
    """So many processes, all different."""
    return [Process.call("f", [first + number]) for number in range(count)]


def net(count, first=0):
    """A net of so many processes, all different."""
    return Net(numbered(count, first))


def call(name, *operands):
    """A call."""
    return Process.call(name, operands)


def book_with(definitions):
    """A book of a dict: under each name the parameters, with a space between them, and the body."""
    book = Book()
    for name, (params, body) in definitions.items():
        book[name] = Definition(params.split(), body)
    return book


def program(channels=(), definitions=None, starts=(STOP,)):
    """A program, most parts of which a test does not care about."""
    return Program(list(channels), book_with(definitions or {}), Net(list(starts)))


def read(*lines):
    """The program with these lines."""
    return program_read("\n".join(lines))


# Programs of many kinds, which between them use all that a program can do.
SAMPLES = {
    "nothing to do": read("start stop"),
    "an offer that nobody answers": read(
        "channel a 2 at 0", "start [ a 0 / 2 put 5 get ( x ) then stop ]", "start stop",
    ),
    "alone on a channel with one seat": read(
        "channel a 1 at 0", "define f ( x y ) [ a 0 / 1 put x get ( ) then f ( y x ) ]", "start f ( 1 2 )",
    ),
    "two that meet for ever": read(
        "channel a 2 at 1", "define echo ( x c ) [ c 1 / 2 put x get ( y ) then echo ( y c ) ]",
        "define ask ( x ) [ a 0 / 2 put x get ( y ) then ask ( y ) ]", "start ask ( 7 )", "start echo ( 8 a )",
    ),
    "a channel that is given to others": read(
        "channel a 2 at 2", "channel b 2 at 1",
        "start new c 3 [ a 0 / 2 put c get ( x ) then [ c 0 / 3 put x get ( y z ) then stop ] ]",
        "start [ a 1 / 2 put b get ( d ) then [ d 1 / 3 put 1 get ( v w ) then stop + b 0 / 2 put d get ( y ) then"
        " [ d 1 / 3 put 1 get ( v w ) then stop ] ] ]",
        "start [ b 1 / 2 put -4 get ( e ) then [ e 2 / 3 put e get ( v w ) then stop ] ]",
    ),
    "a channel behind each meeting": read(
        "channel a 2 at 0", "define more ( c ) new n 2 [ c 0 / 2 put n get ( y ) then more ( n ) ]",
        "define take ( c ) [ c 1 / 2 put 3 get ( n ) then take ( n ) ]", "start more ( a )", "start take ( a )",
    ),
    "many choices": read(
        "channel a 2 at 0", "channel b 3 at 1", "channel c 1 at 2", "channel d 2 at 2",
        "define f ( x ) [ a 0 / 2 put x get ( y ) then f ( y ) + b 0 / 3 put x get ( y z ) then f ( z )"
        " + d 0 / 2 put a get ( y ) then stop ]",
        "define g ( x ) [ a 1 / 2 put x get ( y ) then g ( y ) + b 1 / 3 put x get ( y z ) then g ( y )"
        " + b 2 / 3 put x get ( y z ) then f ( z ) + x 1 / 2 put 5 get ( y ) then stop ]",
        "start f ( 1 )", "start g ( 2 )", "start f ( 3 )", "start g ( d )",
        "start [ c 0 / 1 put 0 get ( ) then g ( 5 ) ]",
    ),
    "the seats go down where the machines go up": read(
        "channel a 4 at 3", "define f ( s ) [ a 3 / 4 put 3 get ( x y z ) then stop ]", "start f ( 0 )",
        "start [ a 2 / 4 put 2 get ( x y z ) then [ a 2 / 4 put z get ( v w x ) then stop ] ]",
        "start [ a 1 / 4 put 1 get ( x y z ) then [ a 0 / 4 put x get ( v w y ) then stop ] ]",
        "start [ a 0 / 4 put 0 get ( x y z ) then [ a 1 / 4 put y get ( v w z ) then stop ] ]", "start f ( 1 )",
    ),
    "it depends on what was received": read(
        "channel a 2 at 0", "channel b 2 at 1",
        "define f ( x y ) if x = y then [ b 0 / 2 put y get ( z ) then f ( z x ) ] else"
        " [ a 0 / 2 put x get ( z ) then f ( z y ) + b 0 / 2 put 9 get ( z ) then f ( 9 9 ) ]",
        "define g ( x ) [ a 1 / 2 put x get ( y ) then g ( y ) + b 1 / 2 put x get ( y ) then"
        " if y = b then stop else g ( y ) ]",
        "start f ( 1 2 )", "start g ( 2 )", "start g ( b )",
    ),
    "six machines": read(
        "channel a 2 at 0", "channel b 2 at 5", "channel c 4 at 3",
        "define f ( x ) [ a 0 / 2 put x get ( y ) then f ( y ) + c 3 / 4 put x get ( u v w ) then f ( u ) ]",
        "define g ( x ) [ a 1 / 2 put x get ( y ) then g ( y ) + b 0 / 2 put x get ( y ) then f ( y ) ]",
        "start f ( 0 )", "start g ( 1 )", "start f ( 2 )", "start g ( 3 )",
        "start [ b 1 / 2 put 4 get ( y ) then g ( y ) + c 2 / 4 put 4 get ( u v w ) then stop"
        " + c 0 / 4 put b get ( u v w ) then stop ]",
        "start [ c 0 / 4 put 5 get ( u v w ) then stop + c 1 / 4 put 6 get ( u v w ) then stop ]",
    ),
}


def picked_operand(numbers, scope):
    """An integer or a name of the scope."""
    return numbers.choice(sorted(scope) + [0, 1, 2])


def picked_offer(numbers, scope, calls, depth):
    """An offer on a channel of the scope; sometimes one that does not stand."""
    name = numbers.choice(sorted(scope))
    seats = numbers.randint(1, 4) if numbers.random() < 0.1 else scope[name]
    names = numbers.sample(["v", "w", "x", "y", "z"], seats - 1)
    inner = {**scope, **{received: 2 for received in names}}
    rest = picked_process(numbers, inner, calls, depth - 1)
    return Process.offer(name, numbers.randrange(seats), seats, picked_operand(numbers, scope), names, rest)


def picked_choice(numbers, scope, calls, depth):
    """A choice with one to five offers."""
    made = STOP
    for number in range(numbers.choice([1, 2, 2, 3, 3, 4, 5])):
        made = made + picked_offer(numbers, scope, calls, depth)
    return made


def picked_process(numbers, scope, calls, depth):
    """A process in which the names of the scope are bound; each of the calls takes two operands."""
    way = numbers.random()
    if depth == 0 or way < 0.4:
        return Process.call(numbers.choice(calls), [picked_operand(numbers, scope) for number in range(2)])
    if way < 0.5:
        seats = numbers.choice([1, 2, 2, 3])
        return Process.new("n", seats, picked_process(numbers, {**scope, "n": seats}, calls, depth - 1))
    if way < 0.6:
        left, right = picked_operand(numbers, scope), picked_operand(numbers, scope)
        yes, no = [picked_process(numbers, scope, calls, depth - 1) for number in range(2)]
        return Process.when(left, right, yes, no)
    return picked_choice(numbers, scope, calls, depth)


def picked_program(numbers):
    """Any program, in which many meetings are possible."""
    machines = numbers.choice([1, 2, 3, 3, 4, 4, 5, 6])
    declared = [
        (name, numbers.choice([1, 2, 2, 2, 2, 3, 3, 4]), numbers.randrange(machines))
        for name in ["a", "b", "c", "d"][:numbers.randint(1, 4)]
    ]
    scope = {name: seats for name, seats, machine in declared}
    calls = ["f", "g", "h"]
    bodies = {name: ("p q", picked_choice(numbers, {**scope, "p": 2, "q": 2}, calls, 1)) for name in calls}
    return program(declared, bodies, [picked_process(numbers, scope, calls, 2) for number in range(machines)])


def picked_programs(count, seed):
    """All samples, and so many programs besides."""
    numbers = random.Random(seed)
    return list(SAMPLES.values()) + [picked_program(numbers) for number in range(count)]


def seatings_in(plain, machines, channel):
    """All seatings of a channel, found by trying every way to take one offer from the menus for each seat."""
    choices = [
        [(machine, place) for machine in range(machines) for place, entry in enumerate(plain.menu_of(machine))
            if entry[:3] == (channel, seat, channel[2])]
        for seat in range(channel[2])
    ]
    pairs = itertools.product(*choices)
    return sorted(chosen for chosen in pairs if len({machine for machine, place in chosen}) == channel[2])


def steps_in(plain, machines):
    """All channels and seatings with which a meeting is possible, ascending."""
    return [(channel, chosen) for channel in plain.all_channels() for chosen in seatings_in(plain, machines, channel)]


def picked_run(numbers, program, most):
    """A run with at most so many meetings, a list."""
    plain = Plain(program)
    while len(plain.meetings()) < most and (steps := steps_in(plain, program.machines)):
        plain.meet(*numbers.choice(steps))
    return list(plain.meetings())


def picked_seating(numbers, world, channel):
    """A seating of a channel with rows of the book of its home, or None."""
    book = world.view(channel[0])["book"]
    rows = [(machine, place, seat) for machine, turn, rows in book for place, on, seat, value in rows if on == channel]
    pairs = [[(machine, place) for machine, place, at in rows if at == seat] for seat in range(channel[2])]
    return tuple(numbers.choice(among) for among in pairs) if all(pairs) else None


def picked_deed(numbers, world, machines):
    """Any deed, which need not be possible; messages are lost and repeated often, and delivered in any order."""
    count, way = len(world.messages()), numbers.random()
    if count > 80:
        # So many messages are enough to be delayed.
        way = way * 0.65
    if count > 0 and way < 0.6:
        return ("deliver", numbers.choice([0, numbers.randrange(count)]))
    if count > 0 and way < 0.7:
        return (numbers.choice(["drop", "repeat", "repeat"]), numbers.randrange(count))
    if way < 0.8:
        return numbers.choice([("tick", numbers.randrange(machines)), ("tick_all",)])
    channel = numbers.choice(world.all_channels() or [(0, 0, 1)])
    chosen = picked_seating(numbers, world, channel) or world.first_on(channel)
    return ("attempt", channel, chosen or ((0, 0), (1, 0))) if channel[0] < machines else ("tick_all",)


def wild_worlds(programs, turns, seed, every):
    """Worlds in which deeds of any kind have been performed; each is yielded every so many deeds."""
    numbers = random.Random(seed)
    for program in programs:
        world = World(program)
        for turn in range(turns):
            try:
                world.perform(picked_deed(numbers, world, program.machines))
            except (NoSeating, NetworkFull):
                pass
            if turn % every == every - 1:
                yield program, world, numbers


class TermCase(unittest.TestCase):
    """A test case that can ask for a refusal."""

    def refuses(self, field, action, *arguments):
        """The action raises BadTerm with this very field."""
        self.fails(BadTerm, field, action, *arguments)

    def fails(self, kind, argument, action, *arguments):
        """The action raises an error of this very class with this very argument."""
        with self.assertRaises(kind) as caught:
            action(*arguments)
        told = getattr(caught.exception, ATTRIBUTES[kind])
        # A number that is too long to be written can only be compared.
        self.assertTrue(told == argument, f"another argument than expected in a {kind.__name__}")
        self.assertTrue(type(caught.exception) is kind)

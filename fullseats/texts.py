"""The written forms of processes and programs."""

from fullseats.basics import is_name
from fullseats.book import Book, Definition
from fullseats.errors import BadTerm, BadText
from fullseats.program import Program
from fullseats.reader import Reader
from fullseats.terms import Net

# The first words of the lines of a program, in the order in which such lines stand.
FIRST_WORDS = ("channel", "define", "start")


def process_text(process):
    """The written form of a process."""
    return " ".join(process_tokens(process))


def process_tokens(process):
    """The tokens of a process, a list."""
    if process.kind == "choice":
        return choice_tokens(process.parts)
    if process.kind == "new":
        name, seats, rest = process.parts
        return ["new", name, str(seats)] + process_tokens(rest)
    if process.kind == "if":
        left, right, yes, no = process.parts
        test = ["if", str(left), "=", str(right), "then"]
        return test + process_tokens(yes) + ["else"] + process_tokens(no)
    name, operands = process.parts
    return [name] + bracketed(operands)


def choice_tokens(offers):
    """The tokens of a choice with these offers, a list."""
    if not offers:
        return ["stop"]
    tokens = []
    for offer in offers:
        tokens = tokens + ["+"] + offer_tokens(offer)
    return ["["] + tokens[1:] + ["]"]


def offer_tokens(offer):
    """The tokens of an offer, a list."""
    channel, seat, seats, operand, names, rest = offer
    given = [channel, str(seat), "/", str(seats), "put", str(operand)]
    return given + ["get"] + bracketed(names) + ["then"] + process_tokens(rest)


def bracketed(operands):
    """The tokens of names or operands between brackets, a list."""
    return ["("] + [str(operand) for operand in operands] + [")"]


def program_text(program):
    """The written form of a program."""
    book = program.definitions()
    channels = [f"channel {name} {seats} at {machine}" for name, seats, machine in program.declared()]
    definitions = [definition_text(name, book[name]) for name in book]
    starts = [f"start {process_text(process)}" for process in program.processes()]
    return "\n".join(channels + definitions + starts)


def definition_text(name, definition):
    """The line of a definition."""
    tokens = ["define", name] + bracketed(definition.params) + process_tokens(definition.body)
    return " ".join(tokens)


def process_read(text):
    """The process whose written form is the text."""
    reader = Reader(text, 1)
    try:
        process = reader.take_process()
    except BadTerm:
        raise BadText(1) from None
    reader.finish()
    return process


def program_read(text):
    """The program whose written form is the text."""
    draft = Draft()
    for number, line in enumerate(text.split("\n"), start=1):
        draft.add_line(line, number)
    # What the program itself refuses is not the fault of a line: its errors are raised as they are.
    return Program(draft.channels, draft.book, draft.net)


class Draft:
    """What the lines of a text have told so far about a program."""

    def __init__(self):
        self.channels = []
        self.book = Book()
        self.net = Net([])
        self.latest = 0

    def add_line(self, line, number):
        """Adds what the next line tells."""
        reader = Reader(line, number)
        word = reader.take_token()
        reader.require(word in FIRST_WORDS[self.latest:])
        self.latest = FIRST_WORDS.index(word)
        try:
            self.add_told(word, reader)
        except BadTerm:
            raise BadText(number) from None
        reader.finish()

    def add_told(self, word, reader):
        """Adds what a line tells behind its first word."""
        if word == "channel":
            self.add_channel(reader)
        elif word == "define":
            self.add_definition(reader)
        else:
            self.net |= reader.take_process()

    def add_channel(self, reader):
        """Adds a declared channel."""
        name = reader.take_token()
        reader.require(is_name(name))
        seats = reader.take_int()
        reader.expect("at")
        self.channels.append((name, seats, reader.take_int()))

    def add_definition(self, reader):
        """Adds a definition."""
        name = reader.take_token()
        reader.require(name not in self.book)
        params = reader.take_list()
        self.book[name] = Definition(params, reader.take_process())

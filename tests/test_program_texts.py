"""Programs as texts (points 7 to 10, 12 and 13)."""

import itertools
import unittest

from fullseats.errors import BadTerm, BadText, Endless, NoMachine, NoName, WrongCount
from fullseats.terms import Process
from fullseats.texts import process_text, program_read, program_text
from helpers import BAD_NAMES, GOOD_NAMES, STOP, TermCase, call, program, sized, tower

ECHO = "define echo ( x c ) [ c 1 / 2 put x get ( y ) then echo ( y c ) ]"
LINES = [
    "channel c 2 at 1",
    "channel d 4 at 0",
    ECHO,
    "define a ( ) stop",
    "start echo ( -4 c )",
    "start new e 3 if e = d then a ( ) else stop",
]
EXAMPLE = "\n".join(LINES)
NINES = "9" * 30


def lines(*parts):
    """A text of lines; a part is a line or a list of them."""
    return "\n".join([line for part in parts for line in ([part] if isinstance(part, str) else part)])


def channels(count):
    return [f"channel c{number} 2 at 0" for number in range(count)]


def definitions(count):
    return [f"define f{number} ( ) stop" for number in range(count)]


def starts(count):
    return ["start stop"] * count


class ProgramTextCase(TermCase):
    def bad(self, line, text):
        """The first bad line of the text is this one."""
        with self.subTest(line=line, text=text[:300]):
            self.fails(BadText, line, program_read, text)

    def good(self, text):
        """The text is the written form of a program."""
        with self.subTest(text=text[:300]):
            self.assertEqual(program_text(program_read(text)), text)


class Forms(ProgramTextCase):
    def test_all_kinds_of_lines(self):
        given = Process.offer("c", 1, 2, "x", ["y"], call("echo", "y", "c"))
        last = Process.new("e", 3, Process.when("e", "d", call("a"), STOP))
        made = program(
            [("c", 2, 1), ("d", 4, 0)], {"echo": ("x c", given), "a": ("", STOP)}, [call("echo", -4, "c"), last]
        )
        self.assertEqual(program_text(made), EXAMPLE)
        read = program_read(EXAMPLE)
        self.assertEqual(read, made)
        self.assertEqual(read.declared(), [("c", 2, 1), ("d", 4, 0)])
        self.assertEqual(list(read.definitions()), ["echo", "a"])
        self.assertEqual(list(read.processes()), [call("echo", -4, "c"), last])
        self.assertEqual(read.machines, 2)

    def test_the_least_program(self):
        self.assertEqual(program_text(program()), "start stop")
        self.assertEqual(program_read("start stop"), program())

    def test_kinds_of_lines_may_be_missing(self):
        self.good(lines(channels(1), starts(1)))
        self.good(lines(definitions(1), starts(1)))
        self.good(lines(starts(6)))

    def test_as_many_lines_as_are_allowed(self):
        self.good(lines(channels(8), definitions(12), starts(6)))

    def test_the_order_of_the_book_is_kept(self):
        for names in itertools.permutations(["b", "a", "c"]):
            text = lines([f"define {name} ( ) stop" for name in names], starts(1))
            self.good(text)
            self.assertEqual(list(program_read(text).definitions()), list(names))
            made = program([], {name: ("", STOP) for name in names})
            self.assertEqual(program_text(made), text)

    def test_the_order_of_channels_and_start_processes_is_kept(self):
        for order in itertools.permutations(range(3)):
            given = [f"channel {'cab'[number]} 1 at {number}" for number in order]
            processes = [f"start new n {number + 1} stop" for number in order]
            self.good(lines(given, processes))

    def test_parameters(self):
        for params in ("", "x ", "x y ", "x y z ", "z y x w "):
            self.good(lines(f"define f ( {params}) stop", starts(1)))
        for params in ("x x ", "x y x ", "v w x y z ", "5 ", "stop ", "X ", "x, y ", "( x ) ", "x", " "):
            self.bad(1, lines(f"define f ( {params}) stop", starts(1)))

    def test_names(self):
        for name in GOOD_NAMES:
            self.good(lines(f"channel {name} 2 at 0", f"define {name} ( {name} ) stop", starts(1)))
        for name in BAD_NAMES:
            self.bad(1, lines(f"channel {name} 2 at 0", starts(1)))
            self.bad(1, lines(f"define {name} ( ) stop", starts(1)))
            if name != "\n":
                self.bad(2, lines("define f ( ) stop", f"define g ( {name}X ) stop", starts(1)))

    def test_a_program_is_not_changed_when_it_is_written(self):
        made = program_read(EXAMPLE)
        self.assertEqual(program_text(made), EXAMPLE)
        self.assertEqual(program_text(made), EXAMPLE)
        self.assertEqual(made, program_read(EXAMPLE))


class BadLines(ProgramTextCase):
    def test_the_empty_text_and_empty_lines(self):
        self.bad(1, "")
        self.bad(1, "\n")
        self.bad(7, EXAMPLE + "\n")
        self.bad(1, "\n" + EXAMPLE)
        for at in range(7):
            self.bad(at + 1, lines(LINES[:at], "", LINES[at:]))
            self.bad(at + 1, lines(LINES[:at], " ", LINES[at:]))

    def test_each_line_of_an_example_spoilt(self):
        for at, line in enumerate(LINES):
            tokens = line.split(" ")
            for spoilt in (" " + line, line + " ", line + "\r", line + " stop", line.replace(" ", "  ", 1), "x" + line,
                           line.replace(" ", "\t", 1), line.upper(), "", "stop", "# comment", tokens[0]):
                self.bad(at + 1, lines(LINES[:at], spoilt, LINES[at + 1:]))
            for count in range(len(tokens)):
                self.bad(at + 1, lines(LINES[:at], " ".join(tokens[:count]), LINES[at + 1:]))
            for place in range(len(tokens) - 1):
                spoilt = " ".join(tokens[:place + 1]) + "  " + " ".join(tokens[place + 1:])
                self.bad(at + 1, lines(LINES[:at], spoilt, LINES[at + 1:]))

    def test_only_a_newline_separates_lines(self):
        for sign in ("\r", "\r\n", "\x0b", "\x0c", "\x1c", "\x85", "\u2028"):
            self.bad(1, sign.join(LINES))

    def test_the_first_of_several_bad_lines(self):
        for first, second in itertools.combinations(range(6), 2):
            spoilt = [line + " " if at in (first, second) else line for at, line in enumerate(LINES)]
            self.bad(first + 1, lines(spoilt))

    def test_channel_lines(self):
        for line in (
            "channel", "channel c", "channel c 2", "channel c 2 at", "channel c at 0", "channel 2 c at 0",
            "channel c 2 0", "channel c 2 to 0", "channel c 2 at 0 0", "channel c 2 at d", "channel c d at 0",
            "channel ( c 2 ) at 0", "channel c 2 at 0 stop", "channel c 02 at 0", "channel c 2 at 00",
            "channel c 2 at -0", "channel c +2 at 0", "channel c -0 at 0", "channel c 2 at 1_0", "channel c 2.0 at 0",
            f"channel c 1{NINES} at 0", f"channel c 2 at 1{NINES}", f"channel c -1{NINES} at 0", "channel c  2 at 0",
            "Channel c 2 at 0", "channel c 2 At 0", "channel stop 2 at 0", "channel abcdefghi 2 at 0",
            "channel 5 2 at 0",
        ):
            self.bad(1, lines(line, starts(1)))
            self.bad(3, lines(channels(2), line, starts(1)))

    def test_definition_lines(self):
        for line in (
            "define", "define f", "define f (", "define f ( )", "define f ( x", "define f stop", "define ( ) stop",
            "define f ( ) ( ) stop", "define f ( ) stop stop", "define f ( x y stop", "define f x y ) stop",
            "define f ( ) f", "define f () stop", "define f ( ) = stop", "define f ( ) 5", "Define f ( ) stop",
            "define f ( x 1 ) stop", "define f ( ) [ ]", "define f ( ) start stop", "define put ( ) stop",
        ):
            self.bad(1, lines(line, starts(1)))
            self.bad(3, lines(channels(2), line, starts(1)))

    def test_start_lines(self):
        for line in ("start", "start f", "start stop stop", "start start stop", "Start stop", "start [ ]", "stop",
                     "f ( )", "start ( stop )", "start 5", "start define f ( ) stop", "start stop + stop"):
            self.bad(1, line)
            self.bad(4, lines(channels(1), starts(2), line, starts(1)))

    def test_the_order_of_the_kinds(self):
        kinds = {"c": "channel c{} 2 at 0", "d": "define f{} ( ) stop", "s": "start new n 1 stop"}
        for count in range(1, 5):
            for order in itertools.product("cds", repeat=count):
                text = lines([kinds[kind].format(at) for at, kind in enumerate(order)])
                wrong = [at for at in range(1, count) if order[at] < order[at - 1]]
                if wrong:
                    self.bad(wrong[0] + 1, text)
                elif "s" in order:
                    self.good(text)
                else:
                    self.refuses("machines", program_read, text)

    def test_a_second_definition_of_a_name(self):
        for second in ("define f ( ) stop", "define f ( x ) stop", "define f ( ) new a 1 stop"):
            self.bad(2, lines("define f ( ) stop", second, starts(1)))
            self.bad(3, lines("define f ( ) stop", "define g ( ) stop", second, starts(1)))
        self.bad(13, lines(definitions(12), "define f3 ( ) stop", starts(1)))

    def test_thirteen_definitions(self):
        self.bad(13, lines(definitions(13), starts(1)))
        self.bad(15, lines(channels(2), definitions(13), starts(1)))
        self.bad(13, lines(definitions(100), starts(1)))

    def test_seven_start_lines(self):
        self.bad(7, lines(starts(7)))
        self.bad(10, lines(channels(1), definitions(2), starts(100)))

    def test_terms_that_are_not_allowed(self):
        largest = [process_text(tower(20)), process_text(sized(400))]
        bodies = [f"define f{at} ( ) {text}" for at, text in enumerate(largest)]
        self.good(lines(bodies, [f"start {text}" for text in largest]))
        for process in (
            "new a 5 stop", "new a 0 stop", "f ( 1 2 3 4 5 )", "[ a 1 / 1 put 5 get ( ) then stop ]",
            "[ a 0 / 2 put 5 get ( ) then stop ]", "[ a 0 / 3 put 5 get ( x x ) then stop ]", f"f ( 1{NINES} )",
            "new a 1 " + process_text(tower(20)), "new a 1 " + process_text(sized(400)), "new a 1 " * 2400 + "stop",
            "[ " + " + ".join(["a 0 / 1 put 5 get ( ) then stop"] * 7) + " ]",
        ):
            self.bad(1, lines(f"start {process}", starts(1)))
            self.bad(2, lines(starts(1), f"start {process}"))
            self.bad(2, lines(definitions(1), f"define g ( ) {process}", starts(1)))


class Checks(ProgramTextCase):
    """The checks of point 10, which are made behind all lines."""

    def test_channels_that_only_the_program_refuses(self):
        for line, kind, argument in (
            ("channel c1 2 at 0", BadTerm, "name"), ("channel c 0 at 0", BadTerm, "seats"),
            ("channel c 5 at 0", BadTerm, "seats"), ("channel c -1 at 0", BadTerm, "seats"),
            (f"channel c {NINES} at 0", BadTerm, "seats"), ("channel c 2 at 2", NoMachine, 2),
            ("channel c 2 at -1", NoMachine, -1), (f"channel c 2 at -{NINES}", NoMachine, -int(NINES)),
            ("channel c 9 at 9", BadTerm, "seats"), ("channel c1 9 at 9", BadTerm, "name"),
        ):
            text = lines(channels(2), line, starts(2))
            self.fails(kind, argument, program_read, text)
            self.bad(6, text + "\n")
            self.bad(6, text + "\nchannel d 2 at 0")

    def test_nine_channels(self):
        self.refuses("channels", program_read, lines(channels(9), starts(1)))
        self.refuses("channels", program_read, lines(channels(100), starts(1)))
        self.bad(10, lines(channels(9), "stop"))

    def test_no_start_line(self):
        for text in (lines(channels(1)), lines(definitions(1)), lines(channels(9), definitions(1))):
            self.refuses("machines", program_read, text)
            self.bad(text.count("\n") + 2, text + "\n")

    def test_names_and_calls(self):
        for text, kind, argument in (
            ("start f ( )", NoName, "f"), ("start if x = 0 then stop else stop", NoName, "x"),
            ("define f ( ) stop\nstart f ( 5 )", WrongCount, "f"),
            ("define f ( x ) f ( x )\nstart stop", Endless, "f"),
            ("define g ( ) f ( )\ndefine f ( ) g ( )\nstart stop", Endless, "f"),
            ("define f ( ) f ( )\nstart g ( )", NoName, "g"),
            ("define g ( ) x ( )\ndefine f ( ) y ( )\nstart stop", NoName, "y"),
        ):
            self.fails(kind, argument, program_read, text)
            self.bad(text.count("\n") + 2, text + "\nstop")


if __name__ == "__main__":
    unittest.main()

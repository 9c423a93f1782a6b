"""Processes as texts (points 3, 5, 7, 8, 11 and 13)."""

import random
import unittest

from fullseats.errors import BadText
from fullseats.terms import Process
from fullseats.texts import process_read, process_text
from helpers import BAD_NAMES, GOOD_NAMES, STOP, THIRTY_DIGITS, TermCase, call, choice, offer, sized, tower

EXAMPLE = "[ a 0 / 2 put 5 get ( x ) then echo ( x a ) + b 2 / 3 put -1 get ( y z ) then stop ]"
FORMS = [
    ("stop", STOP),
    ("[ a 0 / 1 put 5 get ( ) then stop ]", Process.offer("a", 0, 1, 5, [], STOP)),
    ("[ a 1 / 2 put a get ( x ) then stop ]", Process.offer("a", 1, 2, "a", ["x"], STOP)),
    ("[ a 2 / 3 put -5 get ( x y ) then stop ]", Process.offer("a", 2, 3, -5, ["x", "y"], STOP)),
    ("[ a 3 / 4 put 0 get ( z y x ) then f ( ) ]", Process.offer("a", 3, 4, 0, ["z", "y", "x"], call("f"))),
    (EXAMPLE, Process.offer("a", 0, 2, 5, ["x"], call("echo", "x", "a"))
        + Process.offer("b", 2, 3, -1, ["y", "z"], STOP)),
    ("new c 1 stop", Process.new("c", 1, STOP)),
    ("new c 4 new d 2 f ( c d )", Process.new("c", 4, Process.new("d", 2, call("f", "c", "d")))),
    ("if x = y then stop else f ( )", Process.when("x", "y", STOP, call("f"))),
    ("if -7 = 0 then if a = 1 then stop else f ( ) else stop",
        Process.when(-7, 0, Process.when("a", 1, STOP, call("f")), STOP)),
    ("if 1 = 2 then stop else if 3 = 4 then stop else stop",
        Process.when(1, 2, STOP, Process.when(3, 4, STOP, STOP))),
    ("f ( )", call("f")),
    ("f ( x )", call("f", "x")),
    ("f ( 1 f )", call("f", 1, "f")),
    ("echo5 ( -1 a 0 b )", call("echo5", -1, "a", 0, "b")),
    ("new a 2 [ a 0 / 2 put a get ( a ) then [ b 0 / 1 put 1 get ( ) then stop ] ]",
        Process.new("a", 2, Process.offer("a", 0, 2, "a", ["a"], Process.offer("b", 0, 1, 1, [], STOP)))),
]
# What stands in texts, and what stands in none.
TOKENS = """
    stop [ ] + new if then else put get = / ( ) a f 0 1 2 4 5 -1 -0 007 +1 1.5 A channel at define start , - ++ [] () #
""".split() + ["", "\n", "\t", "1" * 31, "a" * 9, "\u0661", "\u00e4", "1_0"]


def nested(head, levels, tail="", inner="stop"):
    """A text in which so many processes stand inside each other."""
    return head * levels + inner + tail * levels


NESTS = [
    ("new a 1 ", ""), ("if 0 = 0 then ", " else stop"), ("if 0 = 0 then stop else ", ""),
    ("[ a 0 / 1 put 5 get ( ) then ", " ]"), ("[ a 0 / 1 put 5 get ( ) then stop + a 0 / 1 put 5 get ( ) then ", " ]"),
]


class TextCase(TermCase):
    def bad(self, text):
        """There is no process of this written form."""
        with self.subTest(text=text[:200]):
            self.fails(BadText, 1, process_read, text)

    def both(self, text, process):
        """The process is written so, and the text is read as this process."""
        with self.subTest(text=text[:200]):
            self.assertEqual(process_text(process), text)
            self.assertEqual(process_read(text), process)


class Forms(TextCase):
    def test_each_form(self):
        for text, process in FORMS:
            self.both(text, process)

    def test_stop_is_not_written_as_a_choice(self):
        for text in ("[ ]", "[]", "[ stop ]", "[ + ]", "[ ] + [ ]"):
            self.bad(text)
        self.assertEqual(process_text(STOP + STOP), "stop")

    def test_names(self):
        for name in GOOD_NAMES:
            self.both(f"{name} ( {name} )", call(name, name))
            self.both(f"new {name} 1 stop", Process.new(name, 1, STOP))
            offered = Process.offer(name, 0, 2, name, [name], STOP)
            self.both(f"[ {name} 0 / 2 put {name} get ( {name} ) then stop ]", offered)
            self.both(f"if {name} = {name} then stop else stop", Process.when(name, name, STOP, STOP))

    def test_strings_that_are_not_names(self):
        for name in BAD_NAMES:
            for text in (
                f"{name} ( )", f"f ( {name}x! )", f"new {name} 1 stop", f"[ {name} 0 / 1 put 5 get ( ) then stop ]",
                f"[ a 0 / 2 put 5 get ( {name} ) then stop ]", f"[ a 0 / 3 put 5 get ( x {name} ) then stop ]",
            ):
                self.bad(text)
            if name not in ("5", "a b"):
                self.bad(f"f ( {name} )")
                self.bad(f"if {name} = 0 then stop else stop")
                self.bad(f"if 0 = {name} then stop else stop")
                self.bad(f"[ a 0 / 1 put {name} get ( ) then stop ]")

    def test_integers(self):
        for value in (0, 1, -1, 9, 10, -10, 100, 10 ** 29, THIRTY_DIGITS, -THIRTY_DIGITS):
            self.both(f"f ( {value} )", call("f", value))
            self.both(f"if {value} = {value} then stop else stop", Process.when(value, value, STOP, STOP))
            self.both(f"[ a 0 / 1 put {value} get ( ) then stop ]", offer(operand=value))

    def test_what_is_not_written_as_an_integer(self):
        long = "1" * 31
        for value in (
            "-0", "00", "007", "-007", "+1", "+0", "--1", "-", "+", "1-", "1_0", "0x1", "1.0", "1e3", "01", "\u0661",
            "\u00b2", "1\u0661", " 1", "1 ", "1\n", "\n1", "", long, "-" + long, "0" * 31, "9" * 5000, "-" + "9" * 5000,
        ):
            for text in (
                f"f ( {value} )", f"f ( x {value} )", f"if {value} = 0 then stop else stop",
                f"if 0 = {value} then stop else stop", f"[ a 0 / 1 put {value} get ( ) then stop ]",
                f"[ a {value} / 2 put 0 get ( x ) then stop ]", f"[ a 0 / {value} put 0 get ( ) then stop ]",
                f"new a {value} stop",
            ):
                self.bad(text)

    def test_an_integer_is_no_name_and_a_name_is_no_number(self):
        for text in (
            "5 ( )", "new 5 1 stop", "[ 5 0 / 1 put 5 get ( ) then stop ]", "[ a 0 / 2 put 5 get ( 5 ) then stop ]",
            "new a x stop", "[ a x / 2 put 5 get ( y ) then stop ]", "[ a 0 / x put 5 get ( ) then stop ]",
        ):
            self.bad(text)

    def test_reading_gives_new_objects_and_writing_changes_nothing(self):
        process = process_read(EXAMPLE)
        self.assertEqual(process_text(process), EXAMPLE)
        self.assertEqual(process_text(process), EXAMPLE)
        self.assertEqual(process, process_read(EXAMPLE))


class Limits(TextCase):
    def test_seats(self):
        names = ["w", "x", "y", "z"]
        for seats in range(-1, 7):
            (self.good if 1 <= seats <= 4 else self.bad)(f"new a {seats} stop")
            for seat in range(-1, 6):
                for count in range(5):
                    text = " ".join(["[ a", str(seat), "/", str(seats), "put 5 get (", *names[:count], ") then stop ]"])
                    allowed = 1 <= seats <= 4 and 0 <= seat < seats and count == seats - 1
                    (self.good if allowed else self.bad)(text)

    def good(self, text):
        """The text is the written form of a process."""
        self.assertEqual(process_text(process_read(text)), text)

    def test_names_of_an_offer_are_different(self):
        for names in ("x x", "x y x", "x x y", "y x x"):
            self.bad(f"[ a 0 / {len(names.split()) + 1} put 5 get ( {names} ) then stop ]")

    def test_operands(self):
        for count in range(8):
            text = " ".join(["f (", *["x"] * count, ")"])
            (self.good if count <= 4 else self.bad)(text)
        self.bad("f ( " + "x " * 9000 + ")")

    def test_offers(self):
        one = "a 0 / 1 put 5 get ( ) then stop"
        for count in range(1, 12):
            text = "[ " + " + ".join([one] * count) + " ]"
            (self.good if count <= 6 else self.bad)(text)
        for count in range(1, 7):
            self.both(process_text(choice(count)), choice(count))
        self.bad("[ " + " + ".join([one] * 550) + " ]")

    def test_depth(self):
        self.both(nested("new a 1 ", 19), tower(20))
        for head, tail in NESTS:
            for inner in ("stop", "f ( )"):
                if "+" not in head or inner == "stop":
                    self.good(nested(head, 19, tail, inner))
                for levels in (20, 21, 25):
                    self.bad(nested(head, levels, tail, inner))
            self.good(nested(head, 18, tail, "new b 2 stop"))
            self.bad(nested(head, 18, tail, "new b 2 new b 2 stop"))

    def test_thousands_of_levels(self):
        for head, tail in NESTS:
            for levels in (1000, 1500, 5000, 20000):
                for text in (nested(head, levels, tail), nested(head, levels), nested(head, levels, "", "")):
                    self.bad(text)
        self.bad("[ " * 10000)
        self.bad("if " * 6000)

    def test_size(self):
        self.good(process_text(sized(400)))
        for head, tail in NESTS[:3]:
            self.good(head + process_text(sized(398)) + tail)
            self.bad(head + process_text(sized(400)) + tail)
        self.good("new a 1 " + process_text(sized(399)))
        self.bad("if 0 = 0 then stop else " + process_text(sized(399)))
        once = "a 0 / 1 put 5 get ( ) then "
        self.good("[ " + once + process_text(sized(399)) + " ]")
        self.bad("[ " + once + process_text(sized(400)) + " ]")
        self.good("[ " + once + "stop + " + once + process_text(sized(397)) + " ]")
        self.bad("[ " + once + "stop + " + once + process_text(sized(398)) + " ]")
        self.bad("[ " + once + process_text(sized(398)) + " + " + once + "stop ]")


class Spoilt(TextCase):
    """Texts that differ a little from written forms."""

    def check(self, text):
        """The text is bad, or it is the very form of what is read."""
        with self.subTest(text=text):
            try:
                process = process_read(text)
            except BadText as error:
                self.assertEqual(error.line, 1)
                return False
            self.assertEqual(process_text(process), text)
            return True

    def test_spaces(self):
        for text, process in FORMS:
            for spoilt in (" " + text, text + " ", "\n" + text, text + "\n", "\t" + text, text + "\r"):
                self.bad(spoilt)
            for at in [at for at, sign in enumerate(text) if sign == " "]:
                for instead in ("  ", "\n", "\t", " \n", "\u00a0", "\x0b", " \t "):
                    self.bad(text[:at] + instead + text[at + 1:])
                # Two tokens together can be another name.
                self.check(text[:at] + text[at + 1:])

    def test_tokens_left_out(self):
        for text, process in FORMS:
            tokens = text.split(" ")
            for at in range(len(tokens)):
                left = tokens[:at] + tokens[at + 1:]
                if self.check(" ".join(left)):
                    # Only an operand of a call can be missing without harm.
                    self.assertIn("(", left)
                self.check(" ".join(tokens[:at]))
                self.check(" ".join(tokens[at:]))
                self.bad(" ".join(tokens[:at] + [""] + tokens[at:]))

    def test_every_beginning_of_a_text_is_bad(self):
        for text, process in FORMS:
            tokens = text.split(" ")
            for at in range(len(tokens)):
                self.bad(" ".join(tokens[:at]))

    def test_tokens_doubled_and_exchanged(self):
        for text, process in FORMS:
            tokens = text.split(" ")
            for at in range(len(tokens)):
                self.check(" ".join(tokens[:at] + [tokens[at]] + tokens[at:]))
                for place in range(at):
                    changed = list(tokens)
                    changed[at], changed[place] = tokens[place], tokens[at]
                    self.check(" ".join(changed))

    def test_tokens_replaced_and_put_in(self):
        for text, process in FORMS:
            tokens = text.split(" ")
            for at in range(len(tokens) + 1):
                for token in TOKENS:
                    self.check(" ".join(tokens[:at] + [token] + tokens[at:]))
                    self.check(" ".join(tokens[:at] + [token] + tokens[at + 1:]))

    def test_what_no_form_allows(self):
        for text in (
            "", " ", "\n", "stop stop", "stop ( )", "stop + stop", "f", "f (", "f )", "( )", "f ( ) )", "f ( ( )",
            "f ( ) stop", "f()", "f ( x, y )", "f ( x + y )", "STOP", "Stop", "stop.", "stop\x00", "new", "new a",
            "new a 1", "new a 1 stop stop", "new a stop", "new 1 a stop", "new a 1 ( stop )", "if", "if a",
            "if a = b then stop", "if a = b then stop else", "if a = b stop else stop", "if a b then stop else stop",
            "if a == b then stop else stop", "if a = b then stop else stop else stop", "if a = b else stop then stop",
            "a 0 / 1 put 5 get ( ) then stop", "[ a 0 / 1 put 5 get ( ) then stop", "a 0 / 1 put 5 get ( ) then stop ]",
            "[ a 0 / 1 put 5 get ( ) then stop ] ]", "[ [ a 0 / 1 put 5 get ( ) then stop ] ]",
            "[ a 0 / 1 put 5 get ( ) then stop + ]", "[ + a 0 / 1 put 5 get ( ) then stop ]",
            "[ a 0 / 1 get ( ) put 5 then stop ]", "[ a 0 / 1 put 5 then stop ]", "[ a 0/1 put 5 get ( ) then stop ]",
            "[ a 0 / 1 put 5 get then stop ]", "[ a 0 / 1 put 5 get ( ) stop ]", "[ a / 1 put 5 get ( ) then stop ]",
            "[ a 0 1 put 5 get ( ) then stop ]", "[ a 0 / 1 put 5 6 get ( ) then stop ]",
            "[ a 0 / 1 put get ( ) then stop ]", "[ f ( ) ]", "[ stop + stop ]", "start stop",
            "[ a 0 / 1 put 5 get ( ) then stop + stop ]",
            "[ a 0 / 1 put 5 get ( ) then stop b 0 / 1 put 5 get ( ) then stop ]",
            "[ a 0 / 1 put 5 get ( ) then stop ] + [ a 0 / 1 put 5 get ( ) then stop ]",
        ):
            self.bad(text)


class ManyProcesses(TextCase):
    def test_whatever_is_written_is_read_back(self):
        numbers = random.Random(11)
        for turn in range(400):
            process = self.grown(numbers, numbers.randint(1, 6))
            self.assertEqual(process_read(process_text(process)), process)

    def grown(self, numbers, depth):
        """Any process of at most this depth."""
        form = numbers.choice(["choice", "choice", "new", "if", "call", "stop"])
        names = numbers.sample(["a", "b", "c1", "names8ch", "x"], 5)
        operands = [numbers.choice(names + [0, -1, 12, THIRTY_DIGITS]) for place in range(numbers.randint(0, 4))]
        if depth == 1 or form == "stop":
            return numbers.choice([STOP, call(names[0], *operands)])
        if form == "call":
            return call(names[0], *operands)
        if form == "new":
            return Process.new(names[0], numbers.randint(1, 4), self.grown(numbers, depth - 1))
        if form == "if":
            return Process.when(names[0], -3, self.grown(numbers, depth - 1), self.grown(numbers, depth - 1))
        made = STOP
        for place in range(numbers.randint(1, 3)):
            seats = numbers.randint(1, 4)
            rest = self.grown(numbers, depth - 1)
            made = made + Process.offer(
                numbers.choice(names), numbers.randrange(seats), seats, numbers.choice(names), names[:seats - 1], rest
            )
        return made


if __name__ == "__main__":
    unittest.main()

"""Messages and their written form (points 2, 23 and 24)."""

import itertools
import random
import unittest

from fullseats.errors import BadMessage
from fullseats.messages import Message
from helpers import LARGE, THIRTY_DIGITS, TermCase

A, B, C = (1, 0, 2), (1, 4, 2), (0, 7, 1)
FOUR = (3, 12, 4)
# Each written form with its message.
FORMS = [
    ("offers 1 0 3 0 1:0:2 0 5 1 1:4:2 1 0:0:2",
        Message("offers", 1, 0, (3, ((0, A, 0, 5), (1, B, 1, (0, 0, 2)))))),
    ("offers 0 5 0", Message("offers", 0, 5, (0, ()))),
    ("offers 1 1 12 5 1:0:2 1 -7", Message("offers", 1, 1, (12, ((5, A, 1, -7),)))),
    ("offers 3 2 1 0 3:12:4 3 0 2 3:12:4 0 5:5:1 3 3:0:1 0 9 4 3:1:3 2 -1 5 3:12:4 1 0:0:4",
        Message("offers", 3, 2, (1, ((0, FOUR, 3, 0), (2, FOUR, 0, (5, 5, 1)), (3, (3, 0, 1), 0, 9),
                                     (4, (3, 1, 3), 2, -1), (5, FOUR, 1, (0, 0, 4)))))),
    ("heard 0 5 0", Message("heard", 0, 5, (0,))),
    ("heard 5 0 17", Message("heard", 5, 0, (17,))),
    ("ask 2 3 1 0", Message("ask", 2, 3, (1, 0))),
    ("ask 4 4 30 12", Message("ask", 4, 4, (30, 12))),
    ("yes 0 1 1", Message("yes", 0, 1, (1,))),
    ("no 1 0 22", Message("no", 1, 0, (22,))),
    ("free 5 5 3", Message("free", 5, 5, (3,))),
    ("done 2 1 7 1:0:2 0 3 0 5 2 0 1 -4", Message("done", 2, 1, (7, (A, ((0, 3, 0, 5), (2, 0, 1, -4)))))),
    ("done 4 0 1 0:7:1 4 0 5 4:2:3", Message("done", 4, 0, (1, (C, ((4, 0, 5, (4, 2, 3)),))))),
    ("done 3 3 9 3:12:4 5 0 0 0 3 1 1 3:12:4 0 2 2 -2 1 3 3 0:0:1",
        Message("done", 3, 3, (9, (FOUR, ((5, 0, 0, 0), (3, 1, 1, FOUR), (0, 2, 2, -2), (1, 3, 3, (0, 0, 1))))))),
]
LONG = str(THIRTY_DIGITS)
# No written form of a non-negative integer, wherever one stands.
NO_NUMBERS = ["", "-0", "007", "00", "+1", "-1", "1.0", "1_0", "a", "0x1", "1" * 31, "-" + "1" * 31, "\u0661", "\u00b2",
              "1:", ":", "1\n", "\t1", "1\t2", "1e5", "--1", "-", "1:2"]
# The same for a value.
NO_VALUES = [text for text in NO_NUMBERS if text != "-1"] + [
    "0:0", "0:0:0:1", "0:0:0", "0:0:5", "0:0:-1", "6:0:1", "-1:0:1", "0:-1:1", "0:0:01", "00:0:1", "0:+1:1", "::",
    "0::1",
    ":0:0:1", "0:0:1:", "0:0: 1", "0:0:1\n", "(0, 0, 1)", "0;0;1", "0:0:1.0", "0:" + "1" * 31 + ":1", "6:0:2", "0:0:10",
]


class MessageCase(TermCase):
    def bad(self, text):
        """No message is written so."""
        with self.subTest(text=text[:200]):
            self.fails(BadMessage, text, Message.read, text)


class Forms(MessageCase):
    def test_written_and_read(self):
        for text, message in FORMS:
            with self.subTest(text=text):
                self.assertEqual(message.written(), text)
                self.assertTrue(Message.read(text) == message)
                self.assertEqual(Message.read(text).written(), text)

    def test_the_attributes(self):
        for text, message in FORMS:
            kind, to, sender = text.split(" ")[:3]
            for one in (message, Message.read(text)):
                self.assertEqual((one.kind, one.to, one.sender), (kind, int(to), int(sender)))
        self.assertEqual(Message.read(FORMS[0][0]).body, (3, ((0, A, 0, 5), (1, B, 1, (0, 0, 2)))))

    def test_what_is_read_has_no_lists(self):
        def check(part):
            self.assertIn(type(part), (tuple, int))
            for inner in part if isinstance(part, tuple) else ():
                check(inner)
        for text, message in FORMS:
            check(Message.read(text).body)
            self.assertIs(type(Message.read(text).body), tuple)

    def test_thirty_digits(self):
        for text in (
            f"offers 1 0 {LONG} 0 1:{LONG}:2 0 {LONG} 1 1:0:2 1 -{LONG}", f"heard 1 0 {LONG}", f"yes 1 0 {LONG}",
            f"ask 1 0 {LONG} {LONG}", f"no 1 0 {LONG}", f"free 1 0 {LONG}", f"offers 1 0 3 0 1:0:1 0 0:{LONG}:1",
            f"done 1 0 {LONG} 0:{LONG}:1 1 {LONG} 0 -{LONG}", f"done 1 0 1 0:0:1 1 0 0 5:{LONG}:4",
        ):
            self.assertEqual(Message.read(text).written(), text)
            self.bad(text.replace(LONG, LONG + "9"))
            self.bad(text.replace(LONG, "0" + LONG[1:]))

    def test_a_value_may_be_a_channel_of_any_home(self):
        for home in range(6):
            for text in (f"offers 1 0 3 0 1:0:2 0 {home}:3:2", f"done 1 0 1 0:0:1 1 0 0 {home}:3:2"):
                self.assertEqual(Message.read(text).written(), text)

    def test_attributes_are_not_checked(self):
        for arguments in (("ask", 9, -1, (0, -5)), ("yes", LARGE, 0, (1,)), ("offers", 0, 0, (0, ((9, A, 5, 0),)))):
            made = Message(*arguments)
            self.assertTrue((made.kind, made.to, made.sender, made.body) == arguments)
        self.assertEqual(Message("ask", 9, -1, (0, -5)).written(), "ask 9 -1 0 -5")

    def test_integers_of_any_size_are_written(self):
        digits = "9" + "0" * 4998 + "7"
        large = 9 * 10 ** 4999 + 7
        for number, text in (
            (large, digits), (-large, "-" + digits), (10 ** 30, "1" + "0" * 30), (10 ** 60 + 5, "1" + "0" * 59 + "5"),
        ):
            self.assertTrue(Message("yes", 1, 0, (number,)).written() == f"yes 1 0 {text}")
            self.assertTrue(Message("yes", number, 0, (1,)).written() == f"yes {text} 0 1")
            made = Message("offers", 1, 0, (3, ((0, (1, number, 2), 0, number),)))
            self.assertTrue(made.written() == f"offers 1 0 3 0 1:{text}:2 0 {text}")


class Equality(unittest.TestCase):
    def test_all_four_attributes_count(self):
        base = ("offers", 1, 0, (3, ((0, A, 0, 5),)))
        self.assertTrue(Message(*base) == Message(*base))
        self.assertFalse(Message(*base) != Message(*base))
        for other in (
            ("done",) + base[1:], base[:1] + (2,) + base[2:], base[:2] + (1,) + base[3:],
            base[:3] + ((4, base[3][1]),), base[:3] + ((3, ()),), base[:3] + ((3, ((0, A, 0, 6),)),),
            base[:3] + ((3, ((0, B, 0, 5),)),),
        ):
            self.assertFalse(Message(*base) == Message(*other))
            self.assertTrue(Message(*base) != Message(*other))

    def test_all_forms_differ(self):
        for (text, one), (other_text, other) in itertools.product(FORMS, FORMS):
            self.assertEqual(one == other, text == other_text)

    def test_other_things_are_not_equal(self):
        for other in (None, 5, "yes 0 1 1", ("yes", 0, 1, (1,)), []):
            self.assertFalse(Message("yes", 0, 1, (1,)) == other)


class BadTexts(MessageCase):
    def test_no_text(self):
        for text in ("", " ", "  ", "\n", "\t", "stop", "0", "message", "OFFERS 0 5 0", "Offers 0 5 0", "offer 0 5 0"):
            self.bad(text)

    def test_each_kind_needs_its_tokens(self):
        for text, message in FORMS:
            tokens = text.split(" ")
            for count in range(len(tokens)):
                # Without its last rows, or without any, `offers` is a message still.
                if not (tokens[0] == "offers" and count >= 4 and count % 4 == 0):
                    self.bad(" ".join(tokens[:count]))
            for token in ("0", "1", "-1", "0:0:1", "stop", ""):
                self.bad(text + " " + token)

    def test_spaces(self):
        for text, message in FORMS:
            self.bad(" " + text)
            self.bad(text + " ")
            self.bad(text + "\n")
            self.bad("\n" + text)
            for at, sign in enumerate(text):
                if sign == " ":
                    for other in ("  ", "\t", "\n", "", "\r", "\u00a0", " \n"):
                        self.bad(text[:at] + other + text[at + 1:])

    def test_tokens_left_out_doubled_and_exchanged(self):
        for text, message in FORMS:
            tokens = text.split(" ")
            for at in range(len(tokens)):
                for wrong in (
                    tokens[:at] + tokens[at + 1:], tokens[:at] + [tokens[at]] + tokens[at:],
                    tokens[:at] + tokens[at:at + 2][::-1] + tokens[at + 2:],
                ):
                    self.same_or_bad(" ".join(wrong))

    def same_or_bad(self, text):
        """The text may be that of another message, but then it is the written form of this one."""
        try:
            self.assertEqual(Message.read(text).written(), text)
        except BadMessage as error:
            self.assertEqual(error.text, text)

    def test_other_kinds(self):
        counts = {"heard": 4, "yes": 4, "no": 4, "free": 4, "ask": 5}
        for kind, other in itertools.permutations(counts, 2):
            text = " ".join([kind] + ["1"] * (counts[kind] - 1))
            changed = other + text[len(kind):]
            if counts[kind] == counts[other]:
                self.assertEqual(Message.read(changed).kind, other)
            else:
                self.bad(changed)
        for wrong in ("heart", "heards", "Heard", "", "offers ", "done", "asks", "tick", "deliver"):
            self.bad(f"{wrong} 1 0 3")

    def test_every_number(self):
        for text, message in FORMS:
            tokens = text.split(" ")
            for at in range(1, len(tokens)):
                for wrong in NO_NUMBERS:
                    changed = " ".join(tokens[:at] + [wrong] + tokens[at + 1:])
                    if wrong == "-1":
                        self.same_or_bad(changed)
                    else:
                        self.bad(changed)

    def test_only_a_value_may_be_negative(self):
        for text in ("offers 1 0 3 0 1:0:2 0 5", "done 1 0 1 0:0:1 1 0 0 5", "ask 1 0 1 0", "heard 1 0 3", "yes 1 0 3"):
            tokens = text.split(" ")
            for at in range(1, len(tokens)):
                changed = " ".join(tokens[:at] + ["-1"] + tokens[at + 1:])
                if tokens[at] == "5":
                    self.assertEqual(Message.read(changed).written(), changed)
                else:
                    self.bad(changed)

    def test_values(self):
        for value in NO_VALUES:
            self.bad(f"offers 1 0 3 0 1:0:2 0 {value}")
            self.bad(f"offers 1 0 3 0 1:0:2 0 {value} 1 1:0:2 0 5")
            self.bad(f"done 1 0 1 0:0:1 1 0 0 {value}")
            self.bad(f"done 1 0 1 0:0:2 0 0 0 {value} 1 0 0 5")

    def test_machines(self):
        for machine in ("6", "7", "10", "-1", LONG):
            for text in (
                "offers {} 0 3", "offers 0 {} 3", "heard {} 0 3", "heard 0 {} 3", "ask {} 0 1 0", "ask 0 {} 1 0",
                "yes {} 0 1", "yes 0 {} 1", "no {} 0 1", "no 0 {} 1", "free {} 0 1", "free 0 {} 1",
                "done {} 0 1 0:0:1 0 0 0 5", "done 0 0 1 0:0:1 {} 0 0 5", "done 0 0 1 0:0:2 0 0 0 5 {} 0 0 5",
                "done 0 {0} 1 {0}:0:1 0 0 0 5", "offers {0} 0 3 0 {0}:0:1 0 5", "offers 0 0 3 0 0:0:1 0 {}:0:1",
            ):
                self.bad(text.format(machine))
        for machine in range(6):
            for text in ("offers {} 0 3", "offers 0 {} 3", "done {0} {0} 1 {0}:0:1 {0} 0 0 {0}:0:1"):
                self.assertEqual(Message.read(text.format(machine)).written(), text.format(machine))

    def test_places(self):
        for place in range(6):
            self.assertEqual(Message.read(f"offers 1 0 3 {place} 1:0:2 0 5").body[1][0][0], place)
            self.assertEqual(Message.read(f"done 1 0 1 0:0:1 1 0 {place} 5").body[1][1][0][2], place)
        for place in ("6", "7", "-1", "10", LONG):
            self.bad(f"offers 1 0 3 {place} 1:0:2 0 5")
            self.bad(f"done 1 0 1 0:0:1 1 0 {place} 5")

    def test_attempts(self):
        for text in ("ask 1 0 {} 3", "yes 1 0 {}", "no 1 0 {}", "free 1 0 {}", "done 1 0 {} 0:0:1 1 0 0 5"):
            for attempt in ("0", "-1", "-0", "01"):
                self.bad(text.format(attempt))
            self.assertEqual(Message.read(text.format(1)).body[0], 1)

    def test_channels(self):
        for seats in (1, 2, 3, 4):
            self.assertEqual(Message.read(f"offers 1 0 3 0 1:0:{seats} 0 5").body[1][0][1], (1, 0, seats))
        for channel in (
            "1:0", "1:0:0", "1:0:5", "1:0:2:0", "1", "1:-1:2", "1:0:-2", "01:0:2", "1:00:2", "1:0:02", "1::2", ":0:2",
            "1:0:", "1:0:2:", "1:0:+2", "1:a:2", "a", "1/0/2", "1.0.2", "1:0:" + "1" * 31, "6:0:2",
        ):
            self.bad(f"offers 1 0 3 0 {channel} 0 5")
            self.bad(f"done 0 1 1 {channel} 0 0 0 5")
            self.bad(f"done 0 1 1 {channel} 0 0 0 5 1 0 0 5")

    def test_a_seat_is_less_than_the_seats_of_its_channel(self):
        for seats in range(1, 5):
            for seat in range(6):
                text = f"offers 1 0 3 0 1:0:{seats} {seat} 5"
                if seat < seats:
                    self.assertEqual(Message.read(text).body[1][0][2], seat)
                else:
                    self.bad(text)
            self.bad(f"offers 1 0 3 0 1:0:{seats} -1 5")

    def test_rows_are_of_the_home_to_which_they_go(self):
        for home in (0, 2, 3, 5):
            self.bad(f"offers 1 {home} 3 0 {home}:0:2 0 5")
            self.bad(f"offers 1 0 3 0 1:0:2 0 5 1 {home}:0:2 0 5")
            self.bad(f"offers 1 0 3 0 {home}:0:2 0 5 1 1:0:2 0 5")

    def test_places_ascend(self):
        row = "1:0:2 0 5"
        for places in itertools.product(range(4), repeat=3):
            text = "offers 1 0 3 " + " ".join(f"{place} {row}" for place in places)
            if places[0] < places[1] < places[2]:
                self.assertEqual(len(Message.read(text).body[1]), 3)
            else:
                self.bad(text)
        # At most six rows ascend from 0 to 5.
        self.assertEqual(len(Message.read("offers 1 0 3 " + " ".join(f"{k} {row}" for k in range(6))).body[1]), 6)
        self.bad("offers 1 0 3 " + " ".join(f"{k} {row}" for k in range(7)))

    def test_a_meeting_is_told_by_its_home(self):
        for home in (1, 2, 5):
            self.bad(f"done 1 0 1 {home}:0:1 1 0 0 5")
        self.bad("done 1 0 1 1:0:2 1 0 0 5 0 0 0 5")

    def test_one_part_for_each_seat(self):
        parts = [f"{machine} 0 0 5" for machine in range(6)]
        for seats in range(1, 5):
            for count in range(7):
                text = " ".join([f"done 0 1 1 1:0:{seats}"] + parts[:count])
                if count == seats:
                    self.assertEqual(len(Message.read(text).body[1][1]), seats)
                else:
                    self.bad(text)

    def test_the_machines_of_a_meeting_are_different(self):
        self.bad("done 0 1 1 1:0:2 0 0 0 5 0 0 0 5")
        self.bad("done 0 1 1 1:0:2 0 0 0 5 0 1 1 6")
        self.bad("done 0 1 1 1:0:3 0 0 0 5 2 0 0 5 2 0 0 5")
        self.bad("done 2 1 1 1:0:3 0 0 0 5 2 0 0 5 0 0 0 5")

    def test_a_meeting_is_told_to_one_of_its_machines(self):
        for to in range(6):
            text = f"done {to} 1 1 1:0:3 0 0 0 5 2 0 0 5 4 0 0 5"
            if to in (0, 2, 4):
                self.assertEqual(Message.read(text).to, to)
            else:
                self.bad(text)

    def test_spoilt_signs(self):
        numbers = random.Random(24)
        for text, message in FORMS:
            for turn in range(150):
                at = numbers.randrange(len(text))
                self.same_or_bad(text[:at] + numbers.choice("019 -:+a\n\t.\u0661") + text[at + numbers.randrange(2):])


if __name__ == "__main__":
    unittest.main()

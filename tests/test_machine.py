"""Both sides of a machine: messages, ticks and views (points 23, 25, 26 and 30)."""

import unittest

from fullseats.home import Home
from fullseats.machine import Machine
from fullseats.messages import Message
from fullseats.party import Party
from helpers import read

A, B = (0, 0, 2), (0, 1, 1)
PROGRAM = read(
    "channel a 2 at 0", "channel b 1 at 0",
    "start new n 3 [ a 0 / 2 put n get ( x ) then [ b 0 / 1 put x get ( ) then stop ] + a 0 / 1 put 2 get ( )"
    " then stop ]",
    "start [ a 1 / 2 put 4 get ( x ) then stop ]",
)
N = (0, 2, 3)
MENU = [(A, 0, 2, N), (A, 0, 1, 2)]
ROWS = ((0, A, 0, N),)
MEETING = (A, ((0, 0, 0, N), (1, 0, 0, 4)))
DONE = "1 0:0:2 0 0 0 0:2:3 1 0 0 4"
# How machine 0 comes to a meeting with machine 1: what it handles or does, and what it sends then.
STEPS = [
    ("start", ["offers 0 0 0 0 0:0:2 0 0:2:3"]),
    ("offers 0 0 0 0 0:0:2 0 0:2:3", ["heard 0 0 0"]),
    ("offers 0 1 0 0 0:0:2 1 4", ["heard 1 0 0"]),
    ("heard 0 0 0", []),
    ("attempt", ["ask 0 0 1 0"]),
    ("ask 0 0 1 0", ["yes 0 0 1"]),
    ("yes 0 0 1", ["ask 1 0 1 0"]),
    ("yes 0 1 1", ["done 0 0 " + DONE, "done 1 0 " + DONE]),
    ("done 0 0 " + DONE, ["offers 0 0 1 0 0:1:1 0 4"]),
    ("offers 0 0 1 0 0:1:1 0 4", ["heard 0 0 1"]),
    ("heard 0 0 1", []),
    ("offers 0 1 1", ["heard 1 0 1"]),
]
BEGINNING = {
    "turn": 0, "created": 3, "menu": MENU, "log": [], "bound": None, "waiting": [], "told": [], "book": [],
    "attempts": [], "decided": [],
}
# What changes in the view behind each of these steps.
CHANGES = [
    {"told": [(0, 0, ROWS, False)]},
    {"book": [(0, 0, ROWS)]},
    {"book": [(0, 0, ROWS), (1, 0, ((0, A, 1, 4),))]},
    {"told": [(0, 0, ROWS, True)]},
    {"attempts": [(1, MEETING, 0)]},
    {"bound": (0, 1)},
    {"attempts": [(1, MEETING, 1)]},
    {"attempts": [], "decided": [(1, MEETING, (0, 1))], "book": [(0, 0, ()), (1, 0, ())]},
    {"turn": 1, "menu": [(B, 0, 1, 4)], "log": [MEETING], "bound": None, "told": [(0, 1, ((0, B, 0, 4),), False)]},
    {"book": [(0, 1, ((0, B, 0, 4),)), (1, 0, ())], "decided": [(1, MEETING, (1,))]},
    {"told": [(0, 1, ((0, B, 0, 4),), True)]},
    {"book": [(0, 1, ((0, B, 0, 4),)), (1, 1, ())], "decided": []},
]


def takes_step(machine, step):
    """The messages that the machine sends."""
    if step == "start":
        return machine.party_starts()
    if step == "attempt":
        return machine.opens(A, ((0, 0), (1, 0)))
    return machine.handle(Message.read(step))


def behind(count):
    """Machine 0 behind so many of the steps."""
    machine = Machine(PROGRAM, 0)
    for step, sent in STEPS[:count]:
        takes_step(machine, step)
    return machine


class Machines(unittest.TestCase):
    def test_it_is_a_party_and_a_home(self):
        self.assertEqual(Machine.__bases__, (Party, Home))

    def test_every_message_by_its_side_and_the_view_behind_it(self):
        machine = Machine(PROGRAM, 0)
        view = dict(BEGINNING)
        self.assertEqual(machine.view(), view)
        for (step, sent), change in zip(STEPS, CHANGES):
            with self.subTest(step=step):
                self.assertEqual([message.written() for message in takes_step(machine, step)], sent)
                view.update(change)
                self.assertEqual(machine.view(), view)

    def test_no_is_for_the_home_and_free_for_the_party(self):
        machine = behind(7)
        sent = machine.handle(Message.read("no 0 1 1"))
        self.assertEqual([message.written() for message in sent], ["free 0 0 1"])
        self.assertEqual((machine.view()["bound"], machine.view()["attempts"]), ((0, 1), []))
        self.assertEqual(machine.view()["book"], [(0, 0, ROWS), (1, 0, ())])
        self.assertEqual(machine.handle(Message.read("free 0 0 1")), [])
        self.assertEqual(machine.view()["bound"], None)

    def test_on_a_tick_the_party_comes_first(self):
        told, done = "offers 0 0 0 0 0:0:2 0 0:2:3", ["done 0 0 " + DONE, "done 1 0 " + DONE]
        expected = [
            [], [told], [told], [told], [], ["ask 0 0 1 0"], ["yes 0 0 1", "ask 0 0 1 0"], ["yes 0 0 1", "ask 1 0 1 0"],
            ["yes 0 0 1"] + done, ["offers 0 0 1 0 0:1:1 0 4"] + done, ["offers 0 0 1 0 0:1:1 0 4"] + done[1:],
            done[1:], [],
        ]
        for count, sent in enumerate(expected):
            machine = behind(count)
            before = machine.view()
            self.assertEqual([message.written() for message in machine.tick()], sent)
            self.assertEqual(machine.view(), before)


class Views(unittest.TestCase):
    def test_the_keys_and_the_kinds(self):
        for count in range(len(STEPS) + 1):
            view = behind(count).view()
            self.assertEqual(sorted(view), sorted(BEGINNING))
            self.assertIs(type(view), dict)
            for key in ("menu", "log", "waiting", "told", "book", "attempts", "decided"):
                self.assertIs(type(view[key]), list)
                self.assertTrue(all(type(row) is tuple for row in view[key]))
            for home, turn, rows, heard in view["told"]:
                self.assertIs(type(rows), tuple)
                self.assertIs(type(heard), bool)
            for key in ("turn", "created"):
                self.assertIs(type(view[key]), int)
            for attempt, meeting, left in view["decided"]:
                self.assertIs(type(left), tuple)

    def test_pairs_that_wait(self):
        machine = behind(7)
        for text in ("ask 0 1 5 0", "ask 0 3 2 0"):
            machine.handle(Message.read(text))
        self.assertEqual(machine.view()["waiting"], [(1, 5), (3, 2)])

    def test_all_lists_ascend(self):
        lines = [f"channel c{home} 1 at {home}" for home in range(6)]
        offers = " + ".join(f"c{home} 0 / 1 put {home} get ( ) then stop" for home in (4, 1, 5, 0, 2, 3))
        machine = Machine(read(*lines, *[f"start [ {offers} ]"] * 6), 2)
        machine.party_starts()
        for sender in (3, 0, 5, 1, 4):
            machine.handle(Message.read(f"offers 2 {sender} 0 4 2:0:1 0 2"))
        for other in (5, 1, 4):
            machine.opens((2, 0, 1), ((other, 4),))
        for other, attempt in ((4, 3), (5, 1)):
            machine.handle(Message.read(f"yes 2 {other} {attempt}"))
        machine.opens((2, 0, 1), ((0, 4),))
        view = machine.view()
        self.assertEqual([row[0] for row in view["told"]], list(range(6)))
        self.assertEqual([row[0] for row in view["book"]], [0, 1, 3, 4, 5])
        self.assertEqual([row[0] for row in view["attempts"]], [2, 4])
        self.assertEqual([row[0] for row in view["decided"]], [1, 3])

    def test_a_view_can_be_changed(self):
        for count in range(len(STEPS) + 1):
            machine = behind(count)
            before, spoilt = machine.view(), machine.view()
            for key in spoilt:
                if isinstance(spoilt[key], list):
                    spoilt[key].clear()
                    spoilt[key].append("something")
            spoilt.clear()
            self.assertEqual(machine.view(), before)
            for step, sent in STEPS[count:]:
                self.assertEqual([message.written() for message in takes_step(machine, step)], sent)
                # What was told earlier stays as it was.
                self.assertEqual(before, behind(count).view())


if __name__ == "__main__":
    unittest.main()

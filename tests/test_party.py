"""What a party keeps and does (points 2, 23 and 25)."""

import unittest

from fullseats.machine import Machine
from fullseats.messages import Message
from fullseats.party import Party
from helpers import SAMPLES, read

A, B, C, D = (0, 0, 2), (2, 0, 1), (1, 0, 3), (3, 0, 2)
# Machine 1 offers on channels of the homes 0, 1 and 2; one of its offers does not stand.
LINES = [
    "channel a 2 at 0", "channel b 1 at 2", "channel c 3 at 1", "channel d 2 at 3",
    "define later ( x ) [ b 0 / 1 put 7 get ( ) then stop + d 1 / 2 put x get ( y ) then stop ]", "start stop",
    "start [ b 0 / 1 put 1 get ( ) then stop + a 1 / 2 put b get ( x ) then later ( x ) + a 0 / 1 put 2 get ( )"
    " then stop"
    " + c 1 / 3 put -3 get ( x y ) then new n 2 [ n 0 / 2 put y get ( z ) then stop ] + b 0 / 1 put 4 get ( )"
    " then stop ]",
    "start stop", "start stop",
]
TO_0 = "offers 0 1 0 1 0:0:2 1 2:0:1"
TO_1 = "offers 1 1 0 3 1:0:3 1 -3"
TO_2 = "offers 2 1 0 0 2:0:1 0 1 4 2:0:1 0 4"
# Attempt 5 of home 0: machine 1 meets machine 2, which gives 9.
DONE = "done 1 0 5 0:0:2 2 4 0 9 1 0 1 2:0:1"
MEETING = (A, ((2, 4, 0, 9), (1, 0, 1, B)))


class PartyCase(unittest.TestCase):
    def started(self, number=1):
        """The machine with this number, which has been started."""
        machine = Machine(read(*LINES), number)
        machine.party_starts()
        return machine

    def handles(self, party, text, *expected):
        """The party handles a message and sends those that are expected."""
        sent = party.party_handles(Message.read(text))
        self.assertIs(type(sent), list)
        self.assertEqual([message.written() for message in sent], list(expected))

    def ticks(self, party, *expected):
        """The party sends these messages on a tick, and nothing changes."""
        before = party.view()
        sent = party.party_ticks()
        self.assertIs(type(sent), list)
        self.assertEqual([message.written() for message in sent], list(expected))
        self.assertEqual(party.view(), before)

    def keeps(self, party, **expected):
        """The party keeps this."""
        view = party.view()
        self.assertEqual({key: view[key] for key in expected}, expected)


class Alone(unittest.TestCase):
    def test_a_party_needs_no_home(self):
        party = Party(read(*LINES), 1)
        self.assertEqual([message.written() for message in party.party_starts()], [TO_0, TO_1, TO_2])
        self.assertEqual([message.written() for message in party.party_ticks()], [TO_0, TO_1, TO_2])
        sent = party.party_handles(Message.read("ask 1 0 5 0"))
        self.assertEqual([message.written() for message in sent], ["yes 0 1 5"])
        sent = party.party_handles(Message.read(DONE))
        self.assertEqual([message.written() for message in sent][:2], ["offers 0 1 1", "offers 1 1 1"])


class Start(PartyCase):
    def test_rows_for_every_home_for_which_it_has_some(self):
        machine = Machine(read(*LINES), 1)
        self.assertEqual([message.written() for message in machine.party_starts()], [TO_0, TO_1, TO_2])
        self.keeps(machine, told=[
            (0, 0, ((1, A, 1, B),), False), (1, 0, ((3, C, 1, -3),), False),
            (2, 0, ((0, B, 0, 1), (4, B, 0, 4)), False),
        ], bound=None, waiting=[], log=[], turn=0, created=1)

    def test_it_evaluates_when_it_is_created(self):
        start = "start new c 3 new d 1 [ c 2 / 3 put d get ( x y ) then stop ]"
        program = read("channel a 2 at 1", start, "start stop")
        machine = Machine(program, 0)
        self.keeps(machine, menu=[((0, 0, 3), 2, 3, (0, 1, 1))], created=2, told=[], turn=0)
        self.assertEqual([message.written() for message in machine.party_starts()], ["offers 0 0 0 0 0:0:3 2 0:1:1"])

    def test_no_rows(self):
        machine = Machine(read(*LINES), 0)
        self.assertEqual(machine.party_starts(), [])
        self.keeps(machine, told=[], menu=[])
        program = read("channel a 2 at 0", "start [ a 0 / 1 put 5 get ( ) then stop ]")
        self.assertEqual(Machine(program, 0).party_starts(), [])


class Ask(PartyCase):
    def test_the_right_turn(self):
        machine = self.started()
        self.handles(machine, "ask 1 0 5 0", "yes 0 1 5")
        self.keeps(machine, bound=(0, 5), waiting=[])

    def test_another_turn(self):
        machine = self.started()
        for turn in (1, 2, 10 ** 29):
            self.handles(machine, f"ask 1 0 5 {turn}", "no 0 1 5")
            self.keeps(machine, bound=None, waiting=[])
        self.handles(machine, "ask 1 0 5 0", "yes 0 1 5")
        self.handles(machine, "ask 1 2 6 1", "no 2 1 6")
        self.handles(machine, "ask 1 0 5 1", "no 0 1 5")
        self.keeps(machine, bound=(0, 5), waiting=[])

    def test_bound_to_this_attempt(self):
        machine = self.started()
        for turn in range(3):
            self.handles(machine, "ask 1 0 5 0", "yes 0 1 5")
            self.keeps(machine, bound=(0, 5), waiting=[])

    def test_bound_to_another_one(self):
        machine = self.started()
        self.handles(machine, "ask 1 0 5 0", "yes 0 1 5")
        for home, attempt in ((2, 5), (0, 4), (1, 1), (2, 5), (1, 1), (0, 4), (1, 2)):
            self.handles(machine, f"ask 1 {home} {attempt} 0")
        # Each pair waits once, in the order in which they came.
        self.keeps(machine, bound=(0, 5), waiting=[(2, 5), (0, 4), (1, 1), (1, 2)])


class Free(PartyCase):
    def test_no_pair_is_waiting(self):
        machine = self.started()
        self.handles(machine, "ask 1 0 5 0", "yes 0 1 5")
        self.handles(machine, "free 1 0 5")
        self.keeps(machine, bound=None, waiting=[])

    def test_pairs_are_waiting(self):
        machine = self.started()
        for home, attempt in ((0, 5), (2, 3), (1, 8)):
            machine.party_handles(Message.read(f"ask 1 {home} {attempt} 0"))
        self.handles(machine, "free 1 0 5", "yes 2 1 3")
        self.keeps(machine, bound=(2, 3), waiting=[(1, 8)])
        self.handles(machine, "free 1 2 3", "yes 1 1 8")
        self.keeps(machine, bound=(1, 8), waiting=[])
        self.handles(machine, "free 1 1 8")
        self.keeps(machine, bound=None, waiting=[])

    def test_not_bound_to_it(self):
        machine = self.started()
        self.handles(machine, "free 1 0 5")
        self.keeps(machine, bound=None, waiting=[])
        for home, attempt in ((0, 5), (2, 3)):
            machine.party_handles(Message.read(f"ask 1 {home} {attempt} 0"))
        # Another attempt of this home, the same number of another home, and one that waits.
        for text in ("free 1 0 4", "free 1 1 5", "free 1 2 5", "free 1 2 3"):
            self.handles(machine, text)
            self.keeps(machine, bound=(0, 5), waiting=[(2, 3)])


class Done(PartyCase):
    # To home 3 it has not told anything yet.
    TOLD_THEN = ("offers 0 1 1", "offers 1 1 1", "offers 2 1 1 0 2:0:1 0 7", "offers 3 1 1 1 3:0:2 1 9")

    def bound(self):
        """A machine that is bound to the attempt of the meeting."""
        machine = self.started()
        machine.party_handles(Message.read("ask 1 0 5 0"))
        return machine

    def test_the_meeting_takes_place(self):
        machine = self.bound()
        self.handles(machine, DONE, *self.TOLD_THEN)
        self.keeps(machine, bound=None, waiting=[], log=[MEETING], turn=1, created=1, menu=[(B, 0, 1, 7), (D, 1, 2, 9)])
        self.keeps(machine, told=[
            (0, 1, (), False), (1, 1, (), False), (2, 1, ((0, B, 0, 7),), False), (3, 1, ((1, D, 1, 9),), False),
        ])

    def test_it_refuses_all_that_wait(self):
        machine = self.bound()
        for home, attempt in ((2, 9), (0, 6), (1, 1), (0, 7)):
            machine.party_handles(Message.read(f"ask 1 {home} {attempt} 0"))
        self.handles(machine, DONE, "no 2 1 9", "no 0 1 6", "no 1 1 1", "no 0 1 7", *self.TOLD_THEN)
        self.keeps(machine, bound=None, waiting=[])

    def test_not_bound_to_it(self):
        for before in (
            [], ["ask 1 0 4 0"], ["ask 1 2 5 0"], ["ask 1 0 4 0", "ask 1 0 5 0"], ["ask 1 0 5 0", "free 1 0 5"],
        ):
            machine = self.started()
            for text in before:
                machine.party_handles(Message.read(text))
            view = machine.view()
            self.handles(machine, DONE)
            self.assertEqual(machine.view(), view)

    def test_a_second_time(self):
        machine = self.bound()
        machine.party_handles(Message.read(DONE))
        view = machine.view()
        self.handles(machine, DONE)
        self.assertEqual(machine.view(), view)

    def test_homes_that_were_told_hear_of_empty_rows_until_they_have_heard(self):
        machine = self.bound()
        machine.party_handles(Message.read(DONE))
        for text in ("heard 1 0 1", "heard 1 2 1", "heard 1 3 1"):
            machine.party_handles(Message.read(text))
        # Home 0 has heard that there are no rows, home 1 has not.
        self.keeps(machine, told=[
            (1, 1, (), False), (2, 1, ((0, B, 0, 7),), True), (3, 1, ((1, D, 1, 9),), True),
        ])
        machine.party_handles(Message.read("ask 1 2 1 1"))
        self.handles(machine, "done 1 2 1 2:0:1 1 1 0 7", "offers 1 1 2", "offers 2 1 2", "offers 3 1 2")
        self.keeps(machine, told=[(home, 2, (), False) for home in (1, 2, 3)], menu=[], turn=2)

    def test_the_seats_are_not_in_the_order_of_the_machines(self):
        machine = self.started()
        machine.party_handles(Message.read("ask 1 1 2 0"))
        self.handles(machine, "done 1 1 2 1:0:3 3 0 0 1:0:3 1 0 3 -3 0 5 1 66", "offers 0 1 1",
                     "offers 1 1 1 0 1:1:2 0 66", "offers 2 1 1")
        # It has received 1:0:3 and 66, in the order of the seats.
        self.keeps(machine, menu=[((1, 1, 2), 0, 2, 66)], created=2, turn=1)


class Heard(PartyCase):
    def test_the_right_turn(self):
        machine = self.started()
        self.handles(machine, "heard 1 2 0")
        self.keeps(machine, told=[
            (0, 0, ((1, A, 1, B),), False), (1, 0, ((3, C, 1, -3),), False),
            (2, 0, ((0, B, 0, 1), (4, B, 0, 4)), True),
        ])
        view = machine.view()
        self.handles(machine, "heard 1 2 0")
        self.assertEqual(machine.view(), view)

    def test_another_turn_or_another_home(self):
        machine = self.started()
        view = machine.view()
        for text in ("heard 1 0 1", "heard 1 2 7", "heard 1 3 0", "heard 1 5 0"):
            self.handles(machine, text)
            self.assertEqual(machine.view(), view)

    def test_an_earlier_turn(self):
        machine = self.started()
        machine.party_handles(Message.read("ask 1 0 5 0"))
        machine.party_handles(Message.read(DONE))
        view = machine.view()
        for home in range(4):
            self.handles(machine, f"heard 1 {home} 0")
            self.assertEqual(machine.view(), view)

    def test_an_entry_with_empty_rows_goes(self):
        machine = self.started()
        machine.party_handles(Message.read("ask 1 0 5 0"))
        machine.party_handles(Message.read(DONE))
        self.handles(machine, "heard 1 0 1")
        self.assertEqual([entry[0] for entry in machine.view()["told"]], [1, 2, 3])
        self.handles(machine, "heard 1 2 1")
        self.handles(machine, "heard 1 1 1")
        self.keeps(machine, told=[(2, 1, ((0, B, 0, 7),), True), (3, 1, ((1, D, 1, 9),), False)])


class Ticks(PartyCase):
    def test_rows_that_are_not_heard(self):
        machine = self.started()
        self.ticks(machine, TO_0, TO_1, TO_2)
        machine.party_handles(Message.read("heard 1 1 0"))
        self.ticks(machine, TO_0, TO_2)
        machine.party_handles(Message.read("heard 1 0 0"))
        machine.party_handles(Message.read("heard 1 2 0"))
        self.ticks(machine)
        self.ticks(Machine(read(*LINES), 0))

    def test_yes_comes_last(self):
        machine = self.started()
        machine.party_handles(Message.read("ask 1 0 5 0"))
        machine.party_handles(Message.read("ask 1 2 6 0"))
        self.ticks(machine, TO_0, TO_1, TO_2, "yes 0 1 5")
        for home in range(3):
            machine.party_handles(Message.read(f"heard 1 {home} 0"))
        self.ticks(machine, "yes 0 1 5")
        machine.party_handles(Message.read("free 1 0 5"))
        self.ticks(machine, "yes 2 1 6")

    def test_empty_rows_that_are_not_heard(self):
        machine = self.started()
        machine.party_handles(Message.read("ask 1 0 5 0"))
        machine.party_handles(Message.read(DONE))
        self.ticks(machine, *Done.TOLD_THEN)
        machine.party_handles(Message.read("heard 1 0 1"))
        machine.party_handles(Message.read("heard 1 3 1"))
        self.ticks(machine, *Done.TOLD_THEN[1:3])


class Apart(PartyCase):
    def test_two_machines_of_one_program(self):
        program = SAMPLES["two that meet for ever"]
        one, other = Machine(program, 0), Machine(program, 0)
        one.party_starts()
        one.party_handles(Message.read("ask 0 1 1 0"))
        self.keeps(other, told=[], bound=None)

    def test_lists_that_are_returned_can_be_changed(self):
        machine = self.started()
        machine.party_ticks().clear()
        for message in machine.party_ticks():
            message.kind, message.to, message.body = "spoilt", 9, (9,)
        self.ticks(machine, TO_0, TO_1, TO_2)

    def test_a_message_that_was_passed_can_be_changed(self):
        machine = self.started()
        machine.party_handles(Message.read("ask 1 0 5 0"))
        message = Message.read(DONE)
        machine.party_handles(message)
        message.sender, message.body = 5, (0, (D, ()))
        self.keeps(machine, log=[MEETING])


if __name__ == "__main__":
    unittest.main()

"""What a home keeps and does (points 2 and 26 to 29)."""

import unittest

from fullseats.errors import NoSeating
from fullseats.home import Home
from fullseats.machine import Machine
from fullseats.messages import Message
from helpers import LARGE, TermCase, read

A, B, C = (1, 0, 2), (1, 1, 3), (1, 2, 1)
# Home 1 of six machines; what they offer is told by messages only.
PROGRAM = read("channel a 2 at 1", "channel b 3 at 1", "channel c 1 at 1", *["start stop"] * 6)
TOLD = [
    "offers 1 0 3 0 1:0:2 0 5 2 1:1:3 1 6 3 1:2:1 0 7",
    "offers 1 2 0 0 1:0:2 1 0:0:2 1 1:1:3 2 8 5 1:0:2 0 -1",
    "offers 1 4 7 1 1:1:3 0 9 2 1:0:2 1 4",
    "offers 1 5 1",
]


class HomeCase(TermCase):
    def told(self, *texts):
        """A home that has heard the rows of some machines."""
        home = Machine(PROGRAM, 1)
        for text in texts or TOLD:
            home.home_handles(Message.read(text))
        return home

    def handles(self, home, text, *expected):
        """The home handles a message and sends those that are expected."""
        sent = home.home_handles(Message.read(text))
        self.assertIs(type(sent), list)
        self.assertEqual([message.written() for message in sent], list(expected))

    def ignores(self, home, text, *expected):
        """The home handles a message without any change."""
        before = home.view()
        self.handles(home, text, *expected)
        self.assertEqual(home.view(), before)

    def opens(self, home, channel, chosen, *expected):
        """The home opens an attempt and sends what is expected."""
        sent = home.opens(channel, chosen)
        self.assertIs(type(sent), list)
        self.assertEqual([message.written() for message in sent], list(expected))

    def ticks(self, home, *expected):
        """The home sends these messages on a tick, and nothing changes."""
        before = home.view()
        self.assertEqual([message.written() for message in home.home_ticks()], list(expected))
        self.assertEqual(home.view(), before)

    def keeps(self, home, **expected):
        """The home keeps this."""
        view = home.view()
        self.assertEqual({key: view[key] for key in expected}, expected)

    def entry(self, home, machine):
        """The turn and the rows of a machine in the book, or None."""
        return {row[0]: row[1:] for row in home.view()["book"]}.get(machine)

    def decided(self, *machines):
        """A home that has decided an attempt of the machines 0, 2 and 4, and has heard again from some of them."""
        home = self.told()
        home.opens(B, ((4, 1), (0, 2), (2, 1)))
        for machine in (0, 2, 4):
            home.home_handles(Message.read(f"yes 1 {machine} 1"))
        for machine in machines:
            home.home_handles(Message.read(f"offers 1 {machine} 8"))
        return home


class Alone(unittest.TestCase):
    def test_a_home_needs_no_party(self):
        home = Home(PROGRAM, 1)
        self.assertEqual(home.home_ticks(), [])
        for text in TOLD:
            home.home_handles(Message.read(text))
        self.assertEqual([message.written() for message in home.opens(C, ((0, 3),))], ["ask 0 1 1 3"])
        self.assertEqual([message.written() for message in home.home_ticks()], ["ask 0 1 1 3"])
        sent = home.home_handles(Message.read("yes 1 0 1"))
        self.assertEqual([message.written() for message in sent], ["done 0 1 1 1:2:1 0 3 3 7"])
        self.assertEqual([message.written() for message in home.home_ticks()], ["done 0 1 1 1:2:1 0 3 3 7"])


class Offers(HomeCase):
    def test_the_beginning(self):
        home = Machine(PROGRAM, 1)
        self.keeps(home, book=[], attempts=[], decided=[])
        self.ticks(home)

    def test_a_first_turn(self):
        home = Machine(PROGRAM, 1)
        self.handles(home, TOLD[1], "heard 2 1 0")
        self.handles(home, TOLD[0], "heard 0 1 3")
        self.handles(home, TOLD[3], "heard 5 1 1")
        self.keeps(home, book=[
            (0, 3, ((0, A, 0, 5), (2, B, 1, 6), (3, C, 0, 7))),
            (2, 0, ((0, A, 1, (0, 0, 2)), (1, B, 2, 8), (5, A, 0, -1))), (5, 1, ()),
        ])

    def test_of_the_machine_itself(self):
        home = Machine(PROGRAM, 1)
        self.handles(home, "offers 1 1 4 0 1:0:2 0 5", "heard 1 1 4")
        self.keeps(home, book=[(1, 4, ((0, A, 0, 5),))])

    def test_a_greater_turn(self):
        home = self.told()
        self.handles(home, "offers 1 0 4 1 1:0:2 1 6", "heard 0 1 4")
        self.assertEqual(self.entry(home, 0), (4, ((1, A, 1, 6),)))
        self.handles(home, "offers 1 0 9", "heard 0 1 9")
        self.assertEqual(self.entry(home, 0), (9, ()))

    def test_the_same_turn(self):
        home = self.told()
        self.ignores(home, TOLD[0], "heard 0 1 3")
        # Once the rows are empty, those of the same turn do not come back.
        home.opens(C, ((0, 3),))
        home.home_handles(Message.read("no 1 0 1"))
        self.assertEqual(self.entry(home, 0), (3, ()))
        self.ignores(home, TOLD[0], "heard 0 1 3")

    def test_a_smaller_turn(self):
        home = self.told()
        for turn in (0, 1, 2):
            self.ignores(home, f"offers 1 0 {turn} 0 1:0:2 0 5")
        self.ignores(home, "offers 1 5 0")

    def test_who_has_moved_on(self):
        home = self.decided()
        meeting = (B, ((4, 7, 1, 9), (0, 3, 2, 6), (2, 0, 1, 8)))
        self.keeps(home, decided=[(1, meeting, (0, 2, 4))])
        # The turn of the meeting is not enough, and another machine does not count.
        self.handles(home, "offers 1 4 7", "heard 4 1 7")
        self.handles(home, "offers 1 5 9", "heard 5 1 9")
        self.keeps(home, decided=[(1, meeting, (0, 2, 4))])
        self.handles(home, "offers 1 2 1 0 1:0:2 1 5", "heard 2 1 1")
        self.keeps(home, decided=[(1, meeting, (0, 4))])
        self.handles(home, "offers 1 4 9", "heard 4 1 9")
        self.keeps(home, decided=[(1, meeting, (0,))])
        self.handles(home, "offers 1 0 4", "heard 0 1 4")
        self.keeps(home, decided=[])

    def test_who_has_moved_on_from_several_attempts(self):
        home = self.told()
        home.opens(C, ((0, 3),))
        home.home_handles(Message.read("yes 1 0 1"))
        home.home_handles(Message.read("offers 1 3 2 0 1:0:2 0 1"))
        home.opens(A, ((3, 0), (2, 0)))
        for machine in (2, 3):
            home.home_handles(Message.read(f"yes 1 {machine} 2"))
        self.assertEqual([(row[0], row[2]) for row in home.view()["decided"]], [(1, (0,)), (2, (2, 3))])
        home.home_handles(Message.read("offers 1 3 3"))
        self.assertEqual([(row[0], row[2]) for row in home.view()["decided"]], [(1, (0,)), (2, (2,))])
        home.home_handles(Message.read("offers 1 0 5"))
        self.assertEqual([(row[0], row[2]) for row in home.view()["decided"]], [(2, (2,))])

    def test_open_attempts_stay(self):
        home = self.told()
        home.opens(A, ((2, 5), (4, 2)))
        attempts = home.view()["attempts"]
        self.handles(home, "offers 1 4 8", "heard 4 1 8")
        self.keeps(home, attempts=attempts)


class Opens(HomeCase):
    def test_the_machines_are_asked_in_ascending_order_whatever_their_seats(self):
        home = self.told()
        self.opens(home, B, ((4, 1), (0, 2), (2, 1)), "ask 0 1 1 3")
        meeting = (B, ((4, 7, 1, 9), (0, 3, 2, 6), (2, 0, 1, 8)))
        self.keeps(home, attempts=[(1, meeting, 0)], decided=[])
        self.handles(home, "yes 1 0 1", "ask 2 1 1 0")
        self.keeps(home, attempts=[(1, meeting, 1)])
        self.handles(home, "yes 1 2 1", "ask 4 1 1 7")
        self.keeps(home, attempts=[(1, meeting, 2)])

    def test_the_numbers_go_up_from_1(self):
        home = self.told()
        self.opens(home, C, ((0, 3),), "ask 0 1 1 3")
        self.opens(home, A, ((2, 5), (4, 2)), "ask 2 1 2 0")
        home.home_handles(Message.read("no 1 0 1"))
        self.handles(home, "offers 1 0 5 4 1:2:1 0 1", "heard 0 1 5")
        self.opens(home, C, ((0, 4),), "ask 0 1 3 5")
        self.keeps(home, attempts=[
            (2, (A, ((2, 0, 5, -1), (4, 7, 2, 4))), 0), (3, (C, ((0, 5, 4, 1),)), 0),
        ])

    def test_the_book_stays(self):
        home = self.told()
        book = home.view()["book"]
        home.opens(B, ((4, 1), (0, 2), (2, 1)))
        self.keeps(home, book=book)

    def refused(self, home, channel, chosen):
        """No attempt is opened, no number is used up, and nothing changes."""
        before = home.view()
        self.fails(NoSeating, channel, home.opens, channel, chosen)
        self.assertEqual(home.view(), before)

    def test_every_condition(self):
        home = self.told()
        # Another home, no pair, the number of pairs.
        for channel in ((0, 0, 2), (2, 0, 2), (-1, 0, 2), (LARGE, 0, 2), (0, 0, 2)):
            self.refused(home, channel, ((0, 0), (2, 0)))
        for channel in (A, B, C, (1, 0, 0), (1, 9, 4)):
            self.refused(home, channel, ())
        self.refused(home, A, ((0, 0),))
        self.refused(home, A, ((0, 0), (2, 0), (4, 2)))
        self.refused(home, C, ((0, 3), (0, 3)))
        self.refused(home, B, ((4, 1), (0, 2)))
        # One machine twice.
        self.refused(home, A, ((2, 5), (2, 0)))
        # A machine without an entry, with empty rows, or that there is not.
        for machine in (1, 3, 5, 6, -1, -2, LARGE, -LARGE):
            self.refused(home, A, ((0, 0), (machine, 0)))
            self.refused(home, A, ((machine, 0), (2, 0)))
        # Another place, another channel, another seat, another number of seats.
        for place in (1, 2, 3, 4, 5, 6, -1, -5, LARGE):
            self.refused(home, A, ((0, 0), (2, place)))
        self.refused(home, A, ((0, 2), (2, 0)))
        self.refused(home, A, ((2, 0), (0, 0)))
        self.refused(home, (1, 3, 2), ((0, 0), (2, 0)))
        self.refused(home, (1, 0, 3), ((0, 0), (2, 0), (4, 2)))
        self.refused(home, (1, LARGE, 2), ((0, 0), (2, 0)))
        self.refused(home, (1, -1, 2), ((0, 0), (2, 0)))
        # No number was used up.
        self.opens(home, A, ((0, 0), (2, 0)), "ask 0 1 1 3")

    def test_machines_in_open_attempts(self):
        home = self.told()
        home.opens(A, ((0, 0), (2, 0)))
        self.refused(home, A, ((0, 0), (2, 0)))
        self.refused(home, C, ((0, 3),))
        self.refused(home, A, ((2, 5), (4, 2)))
        self.refused(home, B, ((4, 1), (0, 2), (2, 1)))
        # Also when it has said yes already, but no longer when the attempt has gone.
        home.home_handles(Message.read("yes 1 0 1"))
        self.refused(home, C, ((0, 3),))
        home.home_handles(Message.read("no 1 2 1"))
        self.opens(home, C, ((0, 3),), "ask 0 1 2 3")

    def test_machines_of_a_decided_attempt_have_no_rows(self):
        home = self.decided()
        for channel, chosen in ((A, ((0, 0), (2, 0))), (C, ((0, 3),)), (B, ((4, 1), (0, 2), (2, 1)))):
            self.refused(home, channel, chosen)
        home.home_handles(Message.read("offers 1 0 4 0 1:2:1 0 5"))
        self.opens(home, C, ((0, 0),), "ask 0 1 2 4")

    def test_a_home_without_a_book(self):
        self.refused(Machine(PROGRAM, 1), A, ((0, 0), (2, 0)))


class Yes(HomeCase):
    def test_of_the_machine_that_is_asked(self):
        home = self.told()
        home.opens(A, ((2, 5), (4, 2)))
        self.handles(home, "yes 1 2 1", "ask 4 1 1 7")
        self.handles(home, "yes 1 4 1", "done 2 1 1 1:0:2 2 0 5 -1 4 7 2 4", "done 4 1 1 1:0:2 2 0 5 -1 4 7 2 4")

    def test_of_another_one(self):
        home = self.told()
        home.opens(B, ((4, 1), (0, 2), (2, 1)))
        for machine in (1, 2, 3, 4, 5):
            self.ignores(home, f"yes 1 {machine} 1")
        home.home_handles(Message.read("yes 1 0 1"))
        for machine in (0, 1, 3, 4, 5):
            self.ignores(home, f"yes 1 {machine} 1")

    def test_of_a_decided_attempt(self):
        done = "1 1 1:1:3 4 7 1 9 0 3 2 6 2 0 1 8"
        home = self.decided()
        for machine in (4, 0, 2, 0):
            self.ignores(home, f"yes 1 {machine} 1", f"done {machine} {done}")
        for machine in (1, 3, 5):
            self.ignores(home, f"yes 1 {machine} 1", f"free {machine} 1 1")
        home = self.decided(2)
        self.ignores(home, "yes 1 2 1", "free 2 1 1")
        self.ignores(home, "yes 1 4 1", f"done 4 {done}")

    def test_of_an_attempt_that_has_gone_or_never_was(self):
        home = self.decided(0, 2, 4)
        for machine in range(6):
            for attempt in (1, 2, 99):
                self.ignores(home, f"yes 1 {machine} {attempt}", f"free {machine} 1 {attempt}")
        home = self.told()
        home.opens(A, ((2, 5), (4, 2)))
        home.home_handles(Message.read("no 1 2 1"))
        self.ignores(home, "yes 1 2 1", "free 2 1 1")
        self.ignores(home, "yes 1 4 1", "free 4 1 1")


class No(HomeCase):
    def test_of_the_first_machine(self):
        home = self.told()
        home.opens(B, ((4, 1), (0, 2), (2, 1)))
        self.handles(home, "no 1 0 1")
        self.keeps(home, attempts=[], decided=[])
        self.assertEqual(self.entry(home, 0), (3, ()))
        self.assertEqual(self.entry(home, 2)[1][1], (1, B, 2, 8))
        self.assertEqual(self.entry(home, 4)[1][0], (1, B, 0, 9))

    def test_those_that_have_said_yes_are_free(self):
        home = self.told()
        home.opens(B, ((4, 1), (0, 2), (2, 1)))
        home.home_handles(Message.read("yes 1 0 1"))
        home.home_handles(Message.read("yes 1 2 1"))
        self.handles(home, "no 1 4 1", "free 0 1 1", "free 2 1 1")
        self.keeps(home, attempts=[])
        self.assertEqual(self.entry(home, 4), (7, ()))
        self.assertEqual(len(self.entry(home, 0)[1]), 3)

    def test_rows_of_a_greater_turn_stay(self):
        home = self.told()
        home.opens(A, ((2, 5), (4, 2)))
        home.home_handles(Message.read("offers 1 2 1 0 1:0:2 1 5"))
        self.handles(home, "no 1 2 1")
        self.assertEqual(self.entry(home, 2), (1, ((0, A, 1, 5),)))
        self.keeps(home, attempts=[])

    def test_of_another_machine(self):
        home = self.told()
        home.opens(B, ((4, 1), (0, 2), (2, 1)))
        home.home_handles(Message.read("yes 1 0 1"))
        for machine in (0, 1, 3, 4, 5):
            self.ignores(home, f"no 1 {machine} 1")

    def test_of_an_attempt_that_is_not_open(self):
        home = self.told()
        for machine in range(6):
            self.ignores(home, f"no 1 {machine} 1")
        home = self.decided(0)
        for machine in range(6):
            self.ignores(home, f"no 1 {machine} 1")

    def test_the_other_attempts_stay(self):
        home = self.told()
        home.opens(C, ((0, 3),))
        home.opens(A, ((2, 5), (4, 2)))
        self.handles(home, "no 1 0 1")
        self.keeps(home, attempts=[(2, (A, ((2, 0, 5, -1), (4, 7, 2, 4))), 0)])


class Decisions(HomeCase):
    def test_done_goes_to_the_machines_in_ascending_order(self):
        home = self.told()
        home.opens(B, ((4, 1), (0, 2), (2, 1)))
        home.home_handles(Message.read("yes 1 0 1"))
        home.home_handles(Message.read("yes 1 2 1"))
        done = "1 1 1:1:3 4 7 1 9 0 3 2 6 2 0 1 8"
        self.handles(home, "yes 1 4 1", f"done 0 {done}", f"done 2 {done}", f"done 4 {done}")
        meeting = (B, ((4, 7, 1, 9), (0, 3, 2, 6), (2, 0, 1, 8)))
        self.keeps(home, attempts=[], decided=[(1, meeting, (0, 2, 4))])

    def test_the_rows_of_its_machines_become_empty(self):
        home = self.told(*TOLD, "offers 1 3 2 0 1:0:2 0 1")
        home.opens(A, ((2, 5), (4, 2)))
        home.home_handles(Message.read("yes 1 2 1"))
        home.home_handles(Message.read("yes 1 4 1"))
        self.assertEqual([self.entry(home, machine) for machine in (2, 4)], [(0, ()), (7, ())])
        self.assertEqual([len(self.entry(home, machine)[1]) for machine in (0, 3, 5)], [3, 1, 0])

    def test_one_machine(self):
        home = self.told()
        home.opens(C, ((0, 3),))
        self.handles(home, "yes 1 0 1", "done 0 1 1 1:2:1 0 3 3 7")
        self.keeps(home, attempts=[], decided=[(1, (C, ((0, 3, 3, 7),)), (0,))])


class Ticks(HomeCase):
    def test_open_attempts_come_first(self):
        home = self.told(*TOLD, "offers 1 3 2 0 1:0:2 0 1 1 1:2:1 0 2", "offers 1 1 0 0 1:2:1 0 3")
        home.opens(C, ((1, 0),))
        home.opens(A, ((0, 0), (2, 0)))
        home.opens(C, ((3, 1),))
        self.ticks(home, "ask 1 1 1 0", "ask 0 1 2 3", "ask 3 1 3 2")
        home.home_handles(Message.read("yes 1 1 1"))
        home.home_handles(Message.read("yes 1 0 2"))
        self.ticks(home, "ask 2 1 2 0", "ask 3 1 3 2", "done 1 1 1 1:2:1 1 0 0 3")
        home.home_handles(Message.read("yes 1 2 2"))
        done = "1 2 1:0:2 0 3 0 5 2 0 0 0:0:2"
        self.ticks(home, "ask 3 1 3 2", "done 1 1 1 1:2:1 1 0 0 3", f"done 0 {done}", f"done 2 {done}")
        home.home_handles(Message.read("offers 1 0 4"))
        self.ticks(home, "ask 3 1 3 2", "done 1 1 1 1:2:1 1 0 0 3", f"done 2 {done}")

    def test_decided_attempts_ascend_in_whatever_order_they_were_decided(self):
        home = self.told()
        home.opens(A, ((2, 5), (4, 2)))
        home.opens(C, ((0, 3),))
        home.home_handles(Message.read("yes 1 0 2"))
        home.home_handles(Message.read("yes 1 2 1"))
        home.home_handles(Message.read("yes 1 4 1"))
        first = "1 1 1:0:2 2 0 5 -1 4 7 2 4"
        self.ticks(home, f"done 2 {first}", f"done 4 {first}", "done 0 1 2 1:2:1 0 3 3 7")
        self.assertEqual([row[0] for row in home.view()["decided"]], [1, 2])

    def test_attempt_10_comes_behind_attempt_9(self):
        home = self.told()
        for attempt in range(1, 9):
            home.opens(C, ((0, 3),))
            home.home_handles(Message.read(f"no 1 0 {attempt}"))
            home.home_handles(Message.read(f"offers 1 0 {attempt + 3} 3 1:2:1 0 7"))
        home.opens(C, ((0, 3),))
        home.opens(A, ((2, 5), (4, 2)))
        self.ticks(home, "ask 0 1 9 11", "ask 2 1 10 0")
        self.assertEqual([row[0] for row in home.view()["attempts"]], [9, 10])


class Apart(HomeCase):
    def test_messages_that_were_passed_or_returned_can_be_changed(self):
        home = Machine(PROGRAM, 1)
        passed = [Message.read(text) for text in TOLD]
        for message in passed:
            for sent in home.home_handles(message):
                sent.body = ()
            message.body, message.sender = (0, ()), 5
        self.assertEqual(home.view(), self.told().view())
        for sent in home.opens(A, ((2, 5), (4, 2))):
            sent.to, sent.body = 5, (9, 9)
        for sent in home.home_ticks():
            sent.to, sent.body = 5, (9, 9)
        self.ticks(home, "ask 2 1 1 0")


if __name__ == "__main__":
    unittest.main()

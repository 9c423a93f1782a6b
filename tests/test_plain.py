"""Meetings of the plain machine (points 2, 15 to 18)."""

import random
import unittest

from fullseats.errors import NoSeating
from fullseats.plain import Plain
from fullseats.runs import Run
from helpers import LARGE, SAMPLES, TermCase, picked_programs, read, seatings_in, steps_in
from test_seatings import all_bars

A, B, C = (0, 0, 2), (1, 0, 3), (0, 1, 1)
# Three machines with offers on three channels, one of which does not stand.
LINES = [
    "channel a 2 at 0", "channel b 3 at 1", "channel c 1 at 0",
    "start [ a 0 / 2 put 5 get ( x ) then [ a 1 / 2 put x get ( y ) then stop ] + b 2 / 3 put 6 get ( x y ) then stop"
    " + c 0 / 1 put c get ( ) then stop + a 1 / 2 put 7 get ( x ) then stop ]",
    "start [ a 1 / 2 put b get ( x ) then stop + b 0 / 3 put 8 get ( x y ) then [ x 0 / 2 put y get ( z ) then"
    " stop ] ]",
    "start [ b 1 / 3 put a get ( x y ) then stop + a 0 / 3 put 9 get ( x y ) then stop"
    " + a 1 / 2 put -1 get ( x ) then stop ]",
]


def look(plain, machines):
    """All that a plain machine tells."""
    channels = plain.all_channels()
    return (
        [(plain.turn_of(machine), plain.menu_of(machine), plain.created_by(machine)) for machine in range(machines)],
        channels, [(plain.first_on(channel), plain.bar_on(channel)) for channel in channels], plain.stuck(),
        list(plain.meetings()),
    )


class Meet(TermCase):
    def test_one_seat(self):
        plain = Plain(read(*LINES))
        self.assertEqual(plain.meet(C, ((0, 2),)), (C, ((0, 0, 2, C),)))
        self.assertEqual(plain.turn_of(0), 1)
        self.assertEqual(plain.menu_of(0), [])

    def test_two_seats(self):
        plain = Plain(read(*LINES))
        self.assertEqual(plain.meet(A, ((0, 0), (1, 0))), (A, ((0, 0, 0, 5), (1, 0, 0, B))))
        self.assertEqual(plain.menu_of(0), [(A, 1, 2, B)])
        self.assertEqual(plain.menu_of(1), [])
        plain = Plain(read(*LINES))
        self.assertEqual(plain.meet(A, ((0, 0), (2, 2))), (A, ((0, 0, 0, 5), (2, 0, 2, -1))))
        self.assertEqual(plain.menu_of(0), [(A, 1, 2, -1)])

    def test_three_seats(self):
        plain = Plain(read(*LINES))
        self.assertEqual(plain.meet(B, ((1, 1), (2, 0), (0, 1))), (B, ((1, 0, 1, 8), (2, 0, 0, A), (0, 0, 1, 6))))
        # The names are bound to the values of the seats 1 and 2.
        self.assertEqual(plain.menu_of(1), [(A, 0, 2, 6)])

    def test_four_seats_and_the_order_of_the_values(self):
        for seat in range(4):
            other_seats = [other for other in range(4) if other != seat]
            others = [f"start [ a {other} / 4 put {10 + other} get ( u v w ) then stop ]" for other in other_seats]
            mine = (
                f"start [ a {seat} / 4 put 0 get ( x y z ) then [ a 0 / 4 put z get ( u v w ) then stop"
                " + a 0 / 4 put y get ( u v w ) then stop + a 0 / 4 put x get ( u v w ) then stop ] ]"
            )
            plain = Plain(read("channel a 4 at 0", *others, mine))
            machines = [0, 1, 2][:seat] + [3] + [0, 1, 2][seat:]
            meeting = plain.meet((0, 0, 4), tuple((machine, 0) for machine in machines))
            given = [0 if at == seat else 10 + at for at in range(4)]
            parts = tuple((machine, 0, 0, value) for machine, value in zip(machines, given))
            self.assertEqual(meeting, ((0, 0, 4), parts))
            self.assertEqual([entry[3] for entry in plain.menu_of(3)], [10 + other for other in other_seats][::-1])

    def test_the_turns_are_those_before_the_meeting(self):
        plain = Plain(SAMPLES["two that meet for ever"])
        for turn in range(5):
            self.assertEqual([plain.turn_of(0), plain.turn_of(1)], [turn, turn])
            meeting = plain.meet((1, 0, 2), ((0, 0), (1, 0)))
            given = (7, 8) if turn % 2 == 0 else (8, 7)
            self.assertEqual(meeting, ((1, 0, 2), ((0, turn, 0, given[0]), (1, turn, 0, given[1]))))

    def test_the_seats_need_not_be_in_the_order_of_the_machines(self):
        plain = Plain(SAMPLES["the seats go down where the machines go up"])
        channel = (3, 0, 4)
        self.assertEqual(plain.first_on(channel), ((3, 0), (2, 0), (1, 0), (0, 0)))
        parts = ((3, 0, 0, 0), (2, 0, 0, 1), (1, 0, 0, 2), (0, 0, 0, 3))
        self.assertEqual(plain.meet(channel, plain.first_on(channel)), (channel, parts))
        # Machine 3 received 1, 2, 3, machine 2 received 0, 2, 3, and machine 1 received 0, 1, 3.
        self.assertEqual([plain.menu_of(machine)[0][3] for machine in (1, 2, 3)], [3, 0, 2])
        self.assertEqual(plain.first_on(channel), ((2, 0), (3, 0), (1, 0), (4, 0)))

    def test_the_other_machines_keep_their_menus(self):
        plain = Plain(read(*LINES))
        before = plain.menu_of(2)
        plain.meet(A, ((0, 0), (1, 0)))
        self.assertEqual(plain.menu_of(2), before)
        self.assertEqual([plain.turn_of(machine) for machine in range(3)], [1, 1, 0])

    def test_bindings_behind_a_meeting(self):
        plain = Plain(read(
            "channel a 2 at 0", "channel b 1 at 0",
            "define f ( x y ) [ a 0 / 2 put x get ( x ) then new z 1 [ b 0 / 1 put x get ( ) then stop"
            " + b 0 / 1 put y get ( ) then stop + b 0 / 1 put a get ( ) then stop + b 0 / 1 put z get ( ) then"
            " stop ] ]",
            "start new a 2 f ( 5 a )", "start [ a 1 / 2 put 6 get ( b ) then [ a 0 / 2 put b get ( c ) then stop ] ]",
        ))
        self.assertEqual(plain.menu_of(0), [((0, 0, 2), 0, 2, 5)])
        plain.meet((0, 0, 2), ((0, 0), (1, 0)))
        # x is hidden by what was received, y stays, a is the channel of the program.
        self.assertEqual([entry[3] for entry in plain.menu_of(0)], [6, (0, 2, 2), (0, 0, 2), (0, 3, 1)])
        self.assertEqual(plain.menu_of(1), [((0, 0, 2), 0, 2, 5)])

    def test_a_name_of_an_offer_hides_the_channel_of_the_offer(self):
        plain = Plain(read(
            "channel a 2 at 0", "start [ a 0 / 2 put a get ( a ) then [ a 0 / 1 put 1 get ( ) then stop ] ]",
            "start new c 1 [ a 1 / 2 put c get ( a ) then [ a 0 / 2 put 2 get ( x ) then stop ] ]",
        ))
        plain.meet((0, 0, 2), ((0, 0), (1, 0)))
        self.assertEqual(plain.menu_of(0), [((1, 0, 1), 0, 1, 1)])
        self.assertEqual(plain.menu_of(1), [((0, 0, 2), 0, 2, 2)])

    def test_a_name_that_one_offer_hides_is_bound_as_before_behind_the_others(self):
        def start():
            return Plain(read(
                "channel a 2 at 0", "channel b 1 at 0",
                "define f ( x ) [ a 0 / 2 put 1 get ( b ) then [ a 0 / 2 put b get ( y ) then stop ]"
                " + a 0 / 2 put 2 get ( x ) then [ a 0 / 2 put x get ( y ) then stop + a 0 / 2 put b get ( y )"
                " then stop ]"
                " + a 0 / 2 put 3 get ( y ) then [ a 0 / 2 put x get ( y ) then stop + a 0 / 2 put b get ( y )"
                " then stop"
                " + a 0 / 2 put y get ( y ) then stop ] ]",
                "start new b 4 f ( 55 )", "start [ a 1 / 2 put 77 get ( y ) then stop ]",
            ))
        for place, expected in enumerate(([77], [77, (0, 1, 1)], [55, (0, 1, 1), 77])):
            plain = start()
            plain.meet((0, 0, 2), ((0, place), (1, 0)))
            self.assertEqual([entry[3] for entry in plain.menu_of(0)], expected)

    def test_what_is_hidden_before_a_meeting_stays_hidden_behind_it(self):
        plain = Plain(read(
            "channel a 1 at 0", "channel b 1 at 0", "define g ( ) [ a 0 / 1 put b get ( ) then stop ]",
            "start new b 3 [ a 0 / 1 put 1 get ( ) then new c 2 [ a 0 / 1 put b get ( ) then g ( ) ] ]",
        ))
        plain.meet((0, 0, 1), ((0, 0),))
        self.assertEqual(plain.menu_of(0), [((0, 0, 1), 0, 1, (0, 2, 3))])
        # In the body of a definition the channel of the program is bound again.
        plain.meet((0, 0, 1), ((0, 0),))
        self.assertEqual(plain.menu_of(0), [((0, 0, 1), 0, 1, (0, 1, 1))])

    def test_the_offer_that_is_taken_counts(self):
        plain = Plain(read(
            "channel a 1 at 0", "start [ a 0 / 1 put 1 get ( ) then [ a 0 / 1 put 11 get ( ) then stop ]"
            " + a 0 / 1 put 2 get ( ) then [ a 0 / 1 put 12 get ( ) then stop ]"
            " + a 0 / 1 put 1 get ( ) then [ a 0 / 1 put 13 get ( ) then stop ] ]",
        ))
        self.assertEqual(plain.meet((0, 0, 1), ((0, 2),)), ((0, 0, 1), ((0, 0, 2, 1),)))
        self.assertEqual(plain.menu_of(0), [((0, 0, 1), 0, 1, 13)])


class Impossible(TermCase):
    def refused(self, channel, chosen, plain=None):
        """The meeting is not possible, and nothing changes."""
        plain = plain or Plain(read(*LINES))
        before = look(plain, 3)
        self.fails(NoSeating, channel, plain.meet, channel, chosen)
        self.assertEqual(look(plain, 3), before)

    def test_the_number_of_pairs(self):
        for channel in (A, B, C):
            self.refused(channel, ())
        self.refused(A, ((0, 0),))
        self.refused(A, ((0, 0), (1, 0), (2, 2)))
        self.refused(B, ((1, 1), (2, 0)))
        self.refused(B, ((1, 1), (2, 0), (0, 1), (0, 1)))
        self.refused(C, ((0, 2), (0, 2)))
        self.refused(C, ((0, 2), (1, 0)))

    def test_one_machine_at_two_seats(self):
        self.refused(A, ((0, 0), (0, 3)))
        self.refused(B, ((1, 1), (2, 0), (2, 0)))

    def test_exchanged_pairs(self):
        self.refused(A, ((1, 0), (0, 0)))
        self.refused(B, ((2, 0), (1, 1), (0, 1)))
        self.refused(B, ((1, 1), (0, 1), (2, 0)))

    def test_machines_and_places_that_do_not_exist(self):
        for number in (3, -1, -2, -3, LARGE, -LARGE):
            self.refused(A, ((0, 0), (number, 0)))
            self.refused(A, ((number, 0), (1, 0)))
            self.refused(C, ((number, 2),))
        for place in (4, 5, 6, -1, -2, -4, LARGE, -LARGE):
            self.refused(A, ((0, place), (1, 0)))
            self.refused(A, ((0, 0), (2, place)))
            self.refused(C, ((0, place),))

    def test_another_offer(self):
        # On another channel, at another seat, with another number of seats.
        self.refused(A, ((0, 1), (1, 0)))
        self.refused(A, ((0, 2), (1, 0)))
        self.refused(A, ((0, 0), (1, 1)))
        self.refused(A, ((0, 3), (1, 0)))
        self.refused(A, ((2, 1), (1, 0)))
        self.refused((0, 0, 3), ((2, 1), (1, 1), (0, 1)))

    def test_channels_that_do_not_exist(self):
        for channel in (
            (2, 0, 2), (0, 2, 2), (0, 0, 3), (0, 0, 1), (-1, 0, 2), (0, -1, 2), (-2, -2, 2), (3, 0, 2), (0, LARGE, 2),
            (LARGE, 0, 2), (0, -LARGE, 2), (0, 0, 5), (0, 0, 0), (0, 0, -2), (0, 0, LARGE),
        ):
            for chosen in ((), ((0, 0),), ((0, 0), (1, 0)), ((1, 1), (2, 0), (0, 1))):
                self.refused(channel, chosen)

    def test_an_offer_that_does_not_stand(self):
        plain = Plain(read(
            "channel a 2 at 0", "define f ( x ) [ x 0 / 2 put 1 get ( y ) then stop ]", "start f ( 0 )",
            "start [ a 1 / 2 put 1 get ( y ) then stop ]", "start stop",
        ))
        self.refused((0, 0, 2), ((0, 0), (1, 0)), plain)
        self.assertTrue(plain.stuck())

    def test_an_offer_is_void_behind_a_meeting(self):
        plain = Plain(read(*LINES))
        plain.meet(C, ((0, 2),))
        self.refused(C, ((0, 2),), plain)
        self.refused(A, ((0, 0), (1, 0)), plain)
        self.refused(B, ((1, 1), (2, 0), (0, 1)), plain)

    def test_every_other_seating_is_refused(self):
        plain = Plain(read(*LINES))
        pairs = [(machine, place) for machine in range(-1, 4) for place in range(-1, 5)]
        possible = seatings_in(plain, 3, A)
        self.assertEqual(possible, [((0, 0), (1, 0)), ((0, 0), (2, 2))])
        for chosen in [(one, other) for one in pairs for other in pairs]:
            if chosen in possible:
                Plain(read(*LINES)).meet(A, chosen)
            else:
                self.fails(NoSeating, A, plain.meet, A, chosen)
        self.assertEqual(look(plain, 3), look(Plain(read(*LINES)), 3))


class Seatings(unittest.TestCase):
    def check(self, plain, machines):
        """Compares the first seatings and the least bars with what trying everything finds."""
        for channel in plain.all_channels():
            possible = seatings_in(plain, machines, channel)
            entries = [
                (machine, place, entry[1]) for machine in range(machines)
                for place, entry in enumerate(plain.menu_of(machine)) if entry[0] == channel and entry[2] == channel[2]
            ]
            bars = all_bars(channel[2], entries)
            self.assertEqual(plain.first_on(channel), possible[0] if possible else None)
            self.assertEqual(plain.bar_on(channel), bars[0] if bars else None)
            self.assertEqual(plain.first_on(channel) is None, plain.bar_on(channel) is not None)
        self.assertEqual(plain.stuck(), not steps_in(plain, machines))

    def test_the_example(self):
        plain = Plain(read(*LINES))
        self.assertEqual(plain.first_on(A), ((0, 0), (1, 0)))
        self.assertEqual(plain.first_on(B), ((1, 1), (2, 0), (0, 1)))
        self.assertEqual(plain.first_on(C), ((0, 2),))
        self.assertEqual([plain.bar_on(channel) for channel in (A, B, C)], [None] * 3)
        plain.meet(C, ((0, 2),))
        self.assertEqual([plain.first_on(channel) for channel in (A, B, C)], [None] * 3)
        self.assertEqual([plain.bar_on(channel) for channel in (A, B, C)], [(0,), (2,), (0,)])
        self.assertTrue(plain.stuck())

    def test_along_many_runs(self):
        numbers = random.Random(17)
        for program in picked_programs(120, 18):
            plain = Plain(program)
            self.check(plain, program.machines)
            while len(plain.meetings()) < 6 and (steps := steps_in(plain, program.machines)):
                plain.meet(*numbers.choice(steps))
                self.check(plain, program.machines)

    def test_channels_that_do_not_exist(self):
        plain = Plain(read(*LINES))
        for channel in (
            (2, 0, 2), (0, 2, 2), (0, 0, 3), (0, 0, 1), (0, 0, 4), (1, 0, 2), (-1, 0, 2), (-2, 0, 2), (0, -1, 2),
            (0, -2, 2), (3, 0, 2), (0, LARGE, 2), (LARGE, 0, 2), (-LARGE, -LARGE, 4), (0, 0, 5), (0, 0, 0), (0, 0, -1),
            (0, 0, LARGE), (0, 0, 60),
        ):
            self.assertIsNone(plain.first_on(channel))
            self.assertEqual(plain.bar_on(channel), (0,))

    def test_a_channel_exists_from_the_meeting_on_that_creates_it(self):
        plain = Plain(SAMPLES["a channel behind each meeting"])
        channels = [(0, 0, 2), (0, 1, 2)]
        for number in range(2, 30):
            self.assertEqual(plain.all_channels(), channels)
            self.assertEqual([plain.bar_on(channel) for channel in channels[:-2]], [(0,)] * (number - 2))
            self.assertEqual(plain.bar_on((0, number, 2)), (0,))
            self.assertEqual(plain.first_on(channels[-2]), ((0, 0), (1, 0)))
            plain.meet(channels[-2], ((0, 0), (1, 0)))
            channels.append((0, number, 2))


class Machine(unittest.TestCase):
    def test_it_is_stuck_exactly_if_no_meeting_is_possible(self):
        self.assertTrue(Plain(SAMPLES["nothing to do"]).stuck())
        self.assertTrue(Plain(SAMPLES["an offer that nobody answers"]).stuck())
        plain = Plain(SAMPLES["a channel that is given to others"])
        for step in range(3):
            self.assertFalse(plain.stuck())
            plain.meet(*steps_in(plain, 3)[0])
        self.assertTrue(plain.stuck())

    def test_the_meetings_are_told_as_a_new_run(self):
        plain = Plain(SAMPLES["two that meet for ever"])
        self.assertEqual(plain.meetings(), Run.empty())
        first = plain.meet((1, 0, 2), ((0, 0), (1, 0)))
        told = plain.meetings()
        self.assertIsInstance(told, Run)
        second = plain.meet((1, 0, 2), ((0, 0), (1, 0)))
        self.assertEqual(list(told), [first])
        self.assertEqual(list(plain.meetings()), [first, second])

    def test_two_machines_of_one_program_are_apart(self):
        program = SAMPLES["many choices"]
        one, other = Plain(program), Plain(program)
        before = look(other, 5)
        while not one.stuck() and len(one.meetings()) < 5:
            one.meet(*steps_in(one, 5)[0])
        self.assertEqual(look(other, 5), before)
        self.assertEqual(look(Plain(program), 5), before)
        self.assertEqual(len(one.meetings()), 5)

    def test_lists_that_are_told_can_be_changed(self):
        plain = Plain(read(*LINES))
        before = look(plain, 3)
        plain.all_channels().clear()
        plain.all_channels().append((5, 5, 1))
        plain.menu_of(1).pop()
        self.assertEqual(look(plain, 3), before)

    def test_a_long_run(self):
        plain = Plain(SAMPLES["alone on a channel with one seat"])
        for turn in range(3000):
            self.assertEqual(plain.meet((0, 0, 1), ((0, 0),)), ((0, 0, 1), ((0, turn, 0, 1 + turn % 2),)))
        self.assertEqual(len(plain.meetings()), 3000)


if __name__ == "__main__":
    unittest.main()

"""The network, the deeds, and what a world tells (points 2, 31 and 32)."""

import unittest

from fullseats.errors import BadSetting, NetworkFull, NoMachine, NoMessage, NoSeating
from fullseats.runs import Run
from fullseats.world import World
from helpers import LARGE, SAMPLES, TermCase, picked_programs, read, wild_worlds
from test_seatings import all_bars, all_seatings

A, B, C = (0, 0, 2), (1, 0, 3), (2, 0, 1)
LINES = [
    "channel a 2 at 0", "channel b 3 at 1", "channel c 1 at 2",
    "start [ a 0 / 2 put 5 get ( x ) then [ c 0 / 1 put x get ( ) then stop ] + b 2 / 3 put 6 get ( x y ) then stop ]",
    "start [ b 0 / 3 put -7 get ( x y ) then stop + a 1 / 2 put b get ( x ) then new n 2 stop ]",
    "start [ b 1 / 3 put 8 get ( x y ) then stop + c 0 / 1 put 9 get ( ) then stop + a 1 / 2 put 4 get ( x )"
    " then stop ]",
]
FIRST = [
    "offers 0 0 0 0 0:0:2 0 5", "offers 1 0 0 1 1:0:3 2 6", "offers 0 1 0 1 0:0:2 1 1:0:3", "offers 1 1 0 0 1:0:3 0 -7",
    "offers 0 2 0 2 0:0:2 1 4", "offers 1 2 0 0 1:0:3 1 8", "offers 2 2 0 1 2:0:1 0 9",
]
DEEDS_OF_MESSAGES = ("deliver", "drop", "repeat")


def look(world, machines=3):
    """All that a world tells."""
    channels = world.all_channels()
    return (
        world.messages(), list(world.decided_run()), [world.view(machine) for machine in range(machines)], channels,
        [(world.first_on(channel), world.bar_on(channel)) for channel in channels], world.at_rest(),
        [world.unanswered(machine) for machine in range(machines)], world.driven, world.room,
    )


def calm(world):
    """Delivers all messages."""
    while world.messages():
        world.perform(("deliver", 0))


class WorldCase(TermCase):
    def world(self, *deeds):
        """A world of the example in which deeds have been performed."""
        world = World(read(*LINES))
        for deed in deeds:
            world.perform(deed)
        return world

    def refused(self, kind, argument, world, deed):
        """The deed is not possible, and nothing changes."""
        before = look(world)
        self.fails(kind, argument, world.perform, deed)
        self.assertEqual(look(world), before)


class Beginning(WorldCase):
    def test_all_machines_start_in_ascending_order(self):
        world = self.world()
        self.assertEqual(world.messages(), FIRST)
        self.assertEqual(list(world.decided_run()), [])
        self.assertFalse(world.at_rest())
        self.assertEqual([world.view(machine)["turn"] for machine in range(3)], [0, 0, 0])

    def test_programs_without_offers(self):
        world = World(SAMPLES["nothing to do"])
        self.assertEqual((world.messages(), world.at_rest(), world.all_channels()), ([], True, []))
        self.assertEqual(World(SAMPLES["an offer that nobody answers"]).messages(), ["offers 0 0 0 0 0:0:2 0 5"])


class Deeds(WorldCase):
    def test_deliver(self):
        world = self.world()
        self.assertIsNone(world.perform(("deliver", 3)))
        self.assertEqual(world.messages(), FIRST[:3] + FIRST[4:] + ["heard 1 1 0"])
        self.assertEqual(world.view(1)["book"], [(1, 0, ((0, B, 0, -7),))])
        world.perform(("deliver", 6))
        self.assertEqual(world.messages(), FIRST[:3] + FIRST[4:])
        self.assertEqual([heard for home, turn, rows, heard in world.view(1)["told"]], [False, True])

    def test_drop(self):
        world = self.world()
        self.assertIsNone(world.perform(("drop", 2)))
        self.assertEqual(world.messages(), FIRST[:2] + FIRST[3:])
        self.assertIsNone(world.perform(("drop", 5)))
        self.assertEqual(world.messages(), FIRST[:2] + FIRST[3:6])
        self.assertEqual([world.view(machine) for machine in range(3)],
            [self.world().view(machine) for machine in range(3)])

    def test_repeat(self):
        world = self.world()
        self.assertIsNone(world.perform(("repeat", 2)))
        self.assertEqual(world.messages(), FIRST + FIRST[2:3])
        self.assertIsNone(world.perform(("repeat", 7)))
        self.assertEqual(world.messages(), FIRST + FIRST[2:3] * 2)
        world.perform(("drop", 2))
        self.assertEqual(world.messages(), FIRST[:2] + FIRST[3:] + FIRST[2:3] * 2)

    def test_tick(self):
        world = self.world()
        self.assertIsNone(world.perform(("tick", 1)))
        self.assertEqual(world.messages(), FIRST + FIRST[2:4])
        self.assertIsNone(world.perform(("tick", 0)))
        self.assertEqual(world.messages(), FIRST + FIRST[2:4] + FIRST[:2])

    def test_tick_all(self):
        world = self.world()
        self.assertIsNone(world.perform(("tick_all",)))
        self.assertEqual(world.messages(), FIRST * 2)
        calm(world)
        world.perform(("tick_all",))
        self.assertEqual(world.messages(), [])

    def test_attempt(self):
        world = self.world()
        calm(world)
        self.assertIsNone(world.perform(("attempt", A, ((0, 0), (2, 2)))))
        self.assertEqual(world.messages(), ["ask 0 0 1 0"])
        meeting = (A, ((0, 0, 0, 5), (2, 0, 2, 4)))
        self.assertEqual(world.view(0)["attempts"], [(1, meeting, 0)])
        self.assertIsNone(world.perform(("attempt", C, ((2, 1),))))
        self.assertEqual(world.messages(), ["ask 0 0 1 0", "ask 2 2 1 0"])
        calm(world)
        # Machine 2 was asked by its own home first.
        self.assertEqual(list(world.decided_run()), [(C, ((2, 0, 1, 9),))])

    def test_what_is_sent_is_appended_in_its_order(self):
        world = self.world()
        calm(world)
        world.perform(("attempt", A, ((0, 0), (1, 1))))
        world.perform(("deliver", 0))
        self.assertEqual(world.messages(), ["yes 0 0 1"])
        world.perform(("deliver", 0))
        self.assertEqual(world.messages(), ["ask 1 0 1 0"])
        world.perform(("deliver", 0))
        self.assertEqual(len(world.decided_run()), 0)
        world.perform(("deliver", 0))
        self.assertEqual(world.messages(), ["done 0 0 1 0:0:2 0 0 0 5 1 0 1 1:0:3",
            "done 1 0 1 0:0:2 0 0 0 5 1 0 1 1:0:3"])
        self.assertEqual(list(world.decided_run()), [(A, ((0, 0, 0, 5), (1, 0, 1, B)))])
        self.assertEqual([world.view(machine)["turn"] for machine in range(3)], [0, 0, 0])
        world.perform(("deliver", 1))
        self.assertEqual(world.messages()[1:], ["offers 0 1 1", "offers 1 1 1"])
        self.assertEqual([world.view(machine)["turn"] for machine in range(3)], [0, 1, 0])
        self.assertEqual(world.all_channels(), [A, B, (1, 1, 2), C])

    def test_no_message(self):
        for deeds in ([], [("drop", 0)] * 7):
            world = self.world(*deeds)
            count = len(world.messages())
            for word in DEEDS_OF_MESSAGES:
                for k in (count, count + 1, 1000, LARGE):
                    self.refused(NoMessage, k, world, (word, k))

    def test_no_machine(self):
        for machine in (3, 4, -1, -3, LARGE, -LARGE):
            self.refused(NoMachine, machine, self.world(), ("tick", machine))
            for asked in ("view", "unanswered"):
                self.fails(NoMachine, machine, getattr(self.world(), asked), machine)

    def test_no_seating(self):
        world = self.world()
        self.refused(NoSeating, A, world, ("attempt", A, ((0, 0), (1, 1))))
        calm(world)
        for chosen in (
            (), ((0, 0),), ((1, 1), (0, 0)), ((0, 0), (0, 0)), ((0, 0), (1, 0)), ((0, 0), (3, 0)), ((0, 0), (-1, 1)),
            ((0, 0), (1, -1)), ((0, LARGE), (1, 1)), ((LARGE, 0), (1, 1)), ((0, 0), (1, 1), (2, 2)),
        ):
            self.refused(NoSeating, A, world, ("attempt", A, chosen))
        for channel in (
            (3, 0, 2), (-1, 0, 2), (-3, 0, 2), (LARGE, 0, 2), (-LARGE, 0, 2), (0, 1, 2), (0, -1, 2), (0, 0, 3),
            (0, LARGE, 2), (0, 0, LARGE), (0, 0, 0), (0, 0, -2),
        ):
            for chosen in ((), ((0, 0), (1, 1)), ((0, 0),)):
                self.refused(NoSeating, channel, world, ("attempt", channel, chosen))
        world.perform(("attempt", A, ((0, 0), (1, 1))))
        self.refused(NoSeating, A, world, ("attempt", A, ((0, 0), (2, 2))))


class Room(WorldCase):
    def test_a_full_network(self):
        for limit in (1, 3, 7, 8, 20):
            world = self.world()
            world.room = limit
            while len(world.messages()) < limit:
                world.perform(("repeat", 0))
            self.refused(NetworkFull, limit, world, ("repeat", 0))
            # That there is no such message is checked first.
            self.refused(NoMessage, len(world.messages()), world, ("repeat", len(world.messages())))
            while len(world.messages()) >= limit:
                world.perform(("drop", 0))
            if world.messages():
                world.perform(("repeat", 0))
                self.assertEqual(len(world.messages()), limit)

    def test_at_first(self):
        self.assertEqual((World.ROOM, self.world().room), (400, 400))
        world = self.world()
        for turn in range(393):
            world.perform(("repeat", 0))
        self.refused(NetworkFull, 400, world, ("repeat", 0))

    def test_what_is_sent_is_not_limited(self):
        world = self.world()
        world.room = 1
        world.perform(("tick_all",))
        self.assertEqual(len(world.messages()), 14)
        world.perform(("deliver", 0))
        self.assertEqual(len(world.messages()), 14)
        self.refused(NetworkFull, 1, world, ("repeat", 0))
        for turn in range(60):
            world.perform(("tick_all",))
        self.assertGreater(len(world.messages()), 400)

    def test_the_limits_of_the_setting(self):
        for value in (1, 2, 400, 999, 1000):
            world = self.world()
            self.assertIsNone(world.set_room(value))
            self.assertEqual(world.room, value)
            world = self.world()
            world.room = value
            self.assertEqual(world.room, value)
        for value in (0, 1001, -1, -400, 10 ** 30, LARGE, -LARGE, True, False):
            world = self.world()
            world.room = 5
            self.fails(BadSetting, value, world.set_room, value)
            self.fails(BadSetting, value, setattr, world, "room", value)
            self.assertEqual(world.room, 5)

    def test_each_world_has_its_own(self):
        program = read(*LINES)
        one, other = World(program), World(program)
        one.room = 7
        self.assertEqual((one.room, other.room, World(program).room, World.ROOM), (7, 400, 400, 400))
        with self.assertRaises(NetworkFull):
            one.perform(("repeat", 0))
        other.perform(("repeat", 0))


class Channels(WorldCase):
    def test_the_books_count_not_the_menus(self):
        world = self.world()
        for channel in (A, B, C):
            self.assertEqual((world.first_on(channel), world.bar_on(channel)), (None, (0,)))
        # Home 0 hears of machine 2 only, then of machine 0 too.
        world.perform(("deliver", 4))
        self.assertEqual((world.first_on(A), world.bar_on(A)), (None, (0,)))
        world.perform(("deliver", 0))
        self.assertEqual((world.first_on(A), world.bar_on(A)), (((0, 0), (2, 2)), None))
        world.perform(("deliver", 1))
        self.assertEqual((world.first_on(A), world.bar_on(A)), (((0, 0), (1, 1)), None))

    def test_machines_in_open_attempts_do_not_count(self):
        world = self.world()
        calm(world)
        self.assertEqual([world.first_on(channel) for channel in (A, B, C)],
                         [((0, 0), (1, 1)), ((1, 0), (2, 0), (0, 1)), ((2, 1),)])
        world.perform(("attempt", A, ((0, 0), (1, 1))))
        # At the other homes they do.
        self.assertEqual([world.first_on(channel) for channel in (A, B, C)],
                         [None, ((1, 0), (2, 0), (0, 1)), ((2, 1),)])
        self.assertEqual([world.bar_on(channel) for channel in (A, B, C)], [(0,), None, None])
        world.perform(("attempt", B, ((1, 0), (2, 0), (0, 1))))
        self.assertEqual([world.bar_on(channel) for channel in (A, B, C)], [(0,), (0,), None])

    def test_channels_that_do_not_exist(self):
        world = self.world()
        calm(world)
        for channel in (
            (0, 1, 2), (1, 1, 3), (0, 0, 1), (0, 0, 3), (0, 0, 4), (1, 0, 2), (3, 0, 2), (-1, 0, 1), (-2, 0, 3),
            (-3, 0, 2), (0, -1, 2), (LARGE, 0, 2), (0, LARGE, 2), (-LARGE, -LARGE, 4), (0, 0, 5), (0, 0, 0),
            (0, 0, -1), (0, 0, LARGE), (1, 0, 60),
        ):
            self.assertIsNone(world.first_on(channel))
            self.assertEqual(world.bar_on(channel), (0,))

    def test_all_channels(self):
        for program in picked_programs(20, 32):
            world = World(program)
            declared = sorted(program.channel_of(name) for name, seats, machine in program.declared())
            self.assertEqual([channel for channel in world.all_channels() if channel in declared], declared)
            self.assertEqual(world.all_channels(), sorted(world.all_channels()))
            for machine in range(program.machines):
                mine = [channel for channel in world.all_channels() if channel[0] == machine]
                numbers = list(range(world.view(machine)["created"]))
                self.assertEqual([number for home, number, seats in mine], numbers)

    def test_along_many_worlds(self):
        for program, world, numbers in wild_worlds(picked_programs(60, 33), 60, 32, 6):
            self.check(world)

    def check(self, world):
        """Compares the first seatings and the least bars with what trying everything finds."""
        for channel in world.all_channels():
            view = world.view(channel[0])
            busy = [part[0] for attempt, meeting, yes in view["attempts"] for part in meeting[1]]
            entries = [
                (machine, place, seat) for machine, turn, rows in view["book"] if machine not in busy
                for place, on, seat, value in rows if on == channel
            ]
            found, bars = all_seatings(channel[2], entries), all_bars(channel[2], entries)
            self.assertEqual(world.first_on(channel), found[0] if found else None)
            self.assertEqual(world.bar_on(channel), bars[0] if bars else None)


class Telling(WorldCase):
    def test_unanswered(self):
        world = self.world()
        self.assertEqual([world.unanswered(machine) for machine in range(3)], [True] * 3)
        calm(world)
        self.assertEqual([world.unanswered(machine) for machine in range(3)], [False] * 3)
        # An attempt that is open, then a party that is bound, then a decision that is not heard of.
        world.perform(("attempt", C, ((2, 1),)))
        self.assertEqual([world.unanswered(machine) for machine in range(3)], [False, False, True])
        world = self.world()
        calm(world)
        world.perform(("attempt", A, ((0, 0), (1, 1))))
        for turn in range(3):
            world.perform(("deliver", 0))
        self.assertEqual([world.unanswered(machine) for machine in range(3)], [True, True, False])

    def test_unanswered_means_that_a_tick_would_send(self):
        for program, world, numbers in wild_worlds(picked_programs(40, 34), 40, 33, 1):
            for machine in range(program.machines):
                told, count = world.unanswered(machine), len(world.messages())
                world.perform(("tick", machine))
                self.assertIs(told, len(world.messages()) > count)
                while len(world.messages()) > count:
                    world.perform(("drop", count))

    def test_at_rest(self):
        world = self.world()
        self.assertIs(world.at_rest(), False)
        calm(world)
        # A first seating is left.
        self.assertIs(world.at_rest(), False)
        world.perform(("attempt", A, ((0, 0), (1, 1))))
        calm(world)
        self.assertIs(world.at_rest(), False)
        world.perform(("attempt", C, ((0, 0),)))
        calm(world)
        world.perform(("attempt", C, ((2, 1),)))
        self.assertIs(world.at_rest(), False)
        calm(world)
        self.assertIs(world.at_rest(), True)
        self.assertEqual(len(world.decided_run()), 3)

    def test_not_at_rest_while_something_is_unanswered_or_under_way(self):
        world = World(SAMPLES["an offer that nobody answers"])
        self.assertIs(world.at_rest(), False)
        world.perform(("drop", 0))
        self.assertIs(world.at_rest(), False)
        world.perform(("tick", 0))
        calm(world)
        self.assertIs(world.at_rest(), True)
        world.perform(("tick", 0))
        self.assertIs(world.at_rest(), True)
        world = World(SAMPLES["an offer that nobody answers"])
        world.perform(("repeat", 0))
        world.perform(("deliver", 0))
        world.perform(("deliver", 1))
        self.assertFalse(world.unanswered(0))
        self.assertIs(world.at_rest(), False)

    def test_the_decided_run_that_was_told_stays(self):
        world = self.world()
        calm(world)
        empty = world.decided_run()
        world.perform(("attempt", A, ((0, 0), (1, 1))))
        calm(world)
        one = world.decided_run()
        world.perform(("attempt", C, ((2, 1),)))
        calm(world)
        self.assertIsInstance(one, Run)
        meetings = [(A, ((0, 0, 0, 5), (1, 0, 1, B))), (C, ((2, 0, 1, 9),))]
        self.assertEqual([list(run) for run in (empty, one, world.decided_run())], [[], meetings[:1], meetings])

    def test_meetings_at_several_homes_are_in_the_order_of_their_decisions(self):
        world = World(read("channel a 1 at 1", "channel b 1 at 0", "start [ a 0 / 1 put 1 get ( ) then stop ]",
                           "start [ b 0 / 1 put 2 get ( ) then stop ]"))
        calm(world)
        world.perform(("attempt", (0, 0, 1), ((1, 0),)))
        world.perform(("attempt", (1, 0, 1), ((0, 0),)))
        world.perform(("deliver", 1))
        world.perform(("deliver", 1))
        self.assertEqual(list(world.decided_run()), [((1, 0, 1), ((0, 0, 0, 1),))])
        calm(world)
        self.assertEqual(list(world.decided_run()), [((1, 0, 1), ((0, 0, 0, 1),)), ((0, 0, 1), ((1, 0, 0, 2),))])

    def test_what_is_told_can_be_changed(self):
        world = self.world(("deliver", 0), ("deliver", 3))
        before = look(world)
        world.messages().clear()
        world.all_channels().append((9, 9, 1))
        world.view(0)["book"].clear()
        world.view(0).clear()
        self.assertEqual(look(world), before)

    def test_asking_changes_nothing(self):
        for program, world, numbers in wild_worlds(picked_programs(20, 35), 30, 34, 1):
            self.assertEqual(look(world, program.machines), look(world, program.machines))

    def test_two_worlds_of_one_program_are_apart(self):
        program = read(*LINES)
        one, other = World(program), World(program)
        before = look(other)
        for turn in range(3):
            one.perform(("tick_all",))
            calm(one)
        one.perform(("attempt", A, ((0, 0), (1, 1))))
        calm(one)
        self.assertEqual(look(other), before)
        self.assertEqual(look(World(program)), before)


if __name__ == "__main__":
    unittest.main()

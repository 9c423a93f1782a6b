"""Policies, and worlds that are driven (points 2, 33 and 34)."""

import unittest

from fullseats.errors import AlreadyDriven, NetworkFull, NoMachine, NoMessage, NoSeating, NotDone, SeatsError
from fullseats.policies import Road, Script, Until
from fullseats.world import World
from helpers import LARGE, SAMPLES, TermCase, picked_deed, picked_programs, read, wild_worlds
from test_world import look

A, B = (0, 0, 2), (1, 0, 1)
LINES = [
    "channel a 2 at 0", "channel b 1 at 1", "channel c 2 at 0",
    "define f ( x ) [ a 0 / 2 put x get ( y ) then f ( y ) ]",
    "define g ( x ) [ a 1 / 2 put x get ( y ) then g ( y ) + b 0 / 1 put x get ( ) then g ( 9 ) ]",
    "start f ( 1 )", "start g ( 2 )", "start [ c 0 / 2 put 3 get ( x ) then stop ]",
]


def new_world():
    """A world of the example."""
    return World(read(*LINES))


class Seen:
    """A policy that notes in which world and how often it is called."""

    def __init__(self, policy):
        self.policy = policy
        self.worlds = []
        self.driven = []

    def __call__(self, world):
        self.worlds.append(world)
        self.driven.append(world.driven)
        return self.policy(world)


class Roads(unittest.TestCase):
    def told(self, world):
        """The deed that the road tells; asking again tells the same and changes nothing."""
        before = look(world)
        deed = Road()(world)
        self.assertEqual(Road()(world), deed)
        self.assertEqual(look(world), before)
        return deed

    def test_messages_come_first(self):
        world = new_world()
        while world.messages():
            self.assertEqual(self.told(world), ("deliver", 0))
            world.perform(("deliver", 0))

    def test_then_what_is_unanswered(self):
        world = new_world()
        while world.messages():
            world.perform(("drop", 0))
        self.assertEqual(self.told(world), ("tick_all",))
        world.perform(("tick", 1))
        while world.messages():
            world.perform(("deliver", 0))
        # The machines 0 and 2 are not heard yet, though a meeting of machine 1 could begin.
        self.assertEqual(world.first_on(B), ((1, 1),))
        self.assertEqual(self.told(world), ("tick_all",))

    def test_then_the_first_seating_of_the_first_channel(self):
        world = new_world()
        world.drive(Road(), 8)
        self.assertEqual((world.messages(), world.first_on(A), world.first_on(B)), ([], ((0, 0), (1, 0)), ((1, 1),)))
        self.assertEqual(self.told(world), ("attempt", A, ((0, 0), (1, 0))))
        # Where the first channel has none, the next one counts.
        world = World(read("channel a 2 at 0", "channel c 1 at 0", "channel b 1 at 1", "start stop",
                           "start [ b 0 / 1 put 1 get ( ) then stop + c 0 / 1 put 2 get ( ) then stop ]", "start stop"))
        world.drive(Road(), 4)
        self.assertEqual(self.told(world), ("attempt", (0, 1, 1), ((1, 1),)))
        world = World(read("channel c 1 at 1", "channel b 1 at 0",
                           "start [ c 0 / 1 put 2 get ( ) then stop ]", "start [ b 0 / 1 put 1 get ( ) then stop ]",
                           "start stop"))
        world.drive(Road(), 4)
        self.assertEqual(self.told(world), ("attempt", (0, 0, 1), ((1, 0),)))

    def test_the_order_of_the_channels_of_one_home(self):
        offers = " + ".join(f"{name} 0 / 1 put 1 get ( ) then stop" for name in "cdb")
        declared = [f"channel {name} 1 at 1" for name in "abcd"]
        world = World(read(*declared, f"start [ {offers} ]", "start stop", "start stop"))
        world.drive(Road(), 2)
        self.assertEqual(self.told(world), ("attempt", (1, 1, 1), ((0, 2),)))

    def test_then_nothing(self):
        for name in ("nothing to do", "an offer that nobody answers"):
            world = World(SAMPLES[name])
            world.drive(Road(), 100)
            self.assertIsNone(Road()(world))
            self.assertIsNone(Road()(world))
            self.assertTrue(world.at_rest())

    def test_in_any_state(self):
        for program, world, numbers in wild_worlds(picked_programs(40, 34), 40, 33, 1):
            if numbers.random() < 0.2:
                # Otherwise attempts would be rare.
                while Road()(world) == ("deliver", 0):
                    world.perform(("deliver", 0))
            deed = Road()(world)
            if world.messages():
                self.assertEqual(deed, ("deliver", 0))
            elif any(world.unanswered(machine) for machine in range(program.machines)):
                self.assertEqual(deed, ("tick_all",))
            else:
                firsts = [("attempt", channel, world.first_on(channel)) for channel in world.all_channels()]
                firsts = [first for first in firsts if first[2] is not None]
                self.assertEqual(deed, firsts[0] if firsts else None)


class Scripts(unittest.TestCase):
    def test_each_deed_once_and_then_none_for_good(self):
        deeds = [("tick_all",), ("deliver", 3), ("tick_all",), ("tick", 99)]
        script = Script(deeds)
        world = new_world()
        self.assertEqual([script(world) for turn in range(7)], deeds + [None] * 3)
        self.assertEqual(look(world), look(new_world()))
        self.assertIsNone(Script([])(world))

    def test_the_list_can_be_changed(self):
        deeds = [("tick_all",), ("drop", 0)]
        script = Script(deeds)
        world = new_world()
        self.assertEqual(script(world), ("tick_all",))
        deeds.clear()
        self.assertEqual(script(world), ("drop", 0))
        deeds.append(("drop", 1))
        self.assertIsNone(script(world))

    def test_two_scripts_of_one_list(self):
        deeds = [("tick_all",), ("drop", 0)]
        one, other = Script(deeds), Script(deeds)
        self.assertEqual([one(None), one(None), other(None), one(None), other(None)],
                         [deeds[0], deeds[1], deeds[0], None, deeds[1]])

    def test_it_goes_on_where_it_was(self):
        world = new_world()
        script = Script([("repeat", 0)] * 5)
        self.assertEqual(world.drive(script, 2), 2)
        self.assertEqual(world.drive(script, 9), 3)


class Untils(unittest.TestCase):
    def test_enough_meetings(self):
        for count in range(5):
            world = new_world()
            world.drive(Until(Road(), count), 1000)
            self.assertEqual(len(world.decided_run()), count)
            # It does not even ask the other policy then.
            seen = Seen(Road())
            for enough in (count, count - 1, 0, -1, -LARGE):
                self.assertIsNone(Until(seen, enough)(world))
            self.assertEqual(seen.worlds, [])

    def test_not_enough_meetings(self):
        world = new_world()
        seen = Seen(Script([("drop", 0), None, ("tick", 7)]))
        until = Until(seen, 1)
        self.assertEqual([until(world) for turn in range(4)], [("drop", 0), None, ("tick", 7), None])
        self.assertTrue(all(one is world for one in seen.worlds) and len(seen.worlds) == 4)
        self.assertEqual(Until(Road(), LARGE)(world), ("deliver", 0))

    def test_one_in_the_other(self):
        world = new_world()
        world.drive(Until(Until(Road(), 3), 2), 1000)
        self.assertEqual(len(world.decided_run()), 2)
        world.drive(Until(Until(Road(), 3), 4), 1000)
        self.assertEqual(len(world.decided_run()), 3)

    def test_a_function_is_a_policy(self):
        world = new_world()
        count = world.drive(Until(lambda world: ("drop", 0) if len(world.messages()) > 1 else None, 5), 9)
        self.assertEqual((count, len(world.messages())), (3, 1))


class Drive(TermCase):
    def test_at_most_so_many_deeds(self):
        for most in (0, 1, 2, 5, 30):
            world, expected = new_world(), new_world()
            seen = Seen(Road())
            self.assertEqual(world.drive(seen, most), most)
            self.assertEqual(len(seen.worlds), most)
            for turn in range(most):
                expected.perform(Road()(expected))
            self.assertEqual(look(world), look(expected))

    def test_until_the_policy_returns_none(self):
        for deeds in (0, 1, 4):
            world = new_world()
            seen = Seen(Script([("drop", 0)] * deeds))
            for most in (deeds + 1, LARGE):
                self.assertEqual(world.drive(seen, most), deeds)
                self.assertEqual(len(seen.worlds), deeds + 1)
                seen, world = Seen(Script([("drop", 0)] * deeds)), new_world()

    def test_driven(self):
        world = new_world()
        self.assertIs(world.driven, False)
        seen = Seen(Until(Road(), 2))
        world.drive(seen, 1000)
        self.assertTrue(all(one is True for one in seen.driven) and len(seen.driven) > 10)
        self.assertTrue(all(one is world for one in seen.worlds))
        self.assertIs(world.driven, False)
        with self.assertRaises(AttributeError):
            world.driven = True

    def test_an_error_of_a_deed(self):
        for deed, kind, argument in (
            (("deliver", 99), NoMessage, 99), (("tick", 3), NoMachine, 3), (("attempt", A, ()), NoSeating, A),
        ):
            world, expected = new_world(), new_world()
            for turn in range(2):
                expected.perform(("deliver", 0))
            script = Script([("deliver", 0), ("deliver", 0), deed, ("tick_all",)])
            self.fails(kind, argument, world.drive, script, 9)
            self.assertEqual(look(world), look(expected))
            self.assertIs(world.driven, False)
            self.assertEqual(world.drive(script, 9), 1)

    def test_an_error_of_a_policy(self):
        class Spoilt(Exception):
            """An error that the program does not know."""

        def policy(world):
            if len(world.messages()) == 1:
                raise Spoilt()
            return ("drop", 0)
        world = new_world()
        with self.assertRaises(Spoilt):
            world.drive(policy, 9)
        self.assertEqual((len(world.messages()), world.driven), (1, False))
        self.assertEqual(world.drive(Road(), 3), 3)

    def test_a_policy_that_drives(self):
        for action in (
            lambda world: world.drive(Road(), 1), lambda world: world.drive(Road(), 0),
            lambda world: world.all_or_none([("drop", 0)]), lambda world: world.all_or_none([]),
        ):
            self.goes_on(action)
            world, calls = new_world(), []

            def policy(world):
                calls.append(1)
                return action(world)
            before = look(world)
            with self.assertRaises(AlreadyDriven):
                world.drive(policy, 5)
            self.assertEqual((look(world), len(calls)), (before, 1))

    def goes_on(self, action):
        """If the policy catches the error, nothing has changed, and the driving goes on."""
        errors = []

        def policy(world):
            before = look(world)
            try:
                action(world)
            except AlreadyDriven as error:
                errors.append(error)
            self.assertEqual(look(world), before)
            self.assertIs(world.driven, True)
            return ("drop", 0)
        world = new_world()
        self.assertEqual(world.drive(policy, 3), 3)
        self.assertEqual((len(errors), world.driven), (3, False))
        self.assertEqual(len(world.messages()), len(new_world().messages()) - 3)

    def test_another_world_can_be_driven_meanwhile(self):
        other = new_world()

        def policy(world):
            self.assertEqual(other.drive(Road(), 1), 1)
            self.assertEqual((other.driven, world.driven), (False, True))
            return ("drop", 0)
        world = new_world()
        self.assertEqual(world.drive(policy, 2), 2)
        self.assertIs(world.driven, False)


class AllOrNone(TermCase):
    GOOD = [("deliver", 0)] * 8 + [("attempt", A, ((0, 0), (1, 0)))] + [("deliver", 0)] * 5

    def test_all_deeds(self):
        for count in range(len(self.GOOD) + 1):
            world, expected = new_world(), new_world()
            for deed in self.GOOD[:count]:
                expected.perform(deed)
            self.assertIsNone(world.all_or_none(self.GOOD[:count]))
            self.assertEqual(look(world), look(expected))

    def fails_at(self, world, place, kind, deeds):
        """The deed at this place is not possible, and the world is as it was."""
        before, passed = look(world), list(deeds)
        with self.assertRaises(NotDone) as caught:
            world.all_or_none(passed)
        self.assertEqual(caught.exception.place, place)
        self.assertIs(type(caught.exception.__cause__), kind)
        self.assertEqual(look(world), before)
        self.assertIs(world.driven, False)
        self.assertEqual(passed, deeds)
        return caught.exception.__cause__

    def test_none(self):
        wrong = [
            (("deliver", 99), NoMessage, "place", 99), (("drop", 99), NoMessage, "place", 99),
            (("repeat", 99), NoMessage, "place", 99), (("tick", 3), NoMachine, "machine", 3),
            (("attempt", A, ()), NoSeating, "channel", A),
            (("attempt", (9, 0, 2), ()), NoSeating, "channel", (9, 0, 2)),
        ]
        for deed, kind, attribute, argument in wrong:
            for place in range(len(self.GOOD) + 1):
                deeds = self.GOOD[:place] + [deed] + self.GOOD[place:]
                cause = self.fails_at(new_world(), place, kind, deeds)
                self.assertEqual(getattr(cause, attribute), argument)
                self.assertIsInstance(cause, SeatsError)

    def test_a_full_network(self):
        world = new_world()
        world.room = 6
        deeds = [("repeat", 0)] * 3
        self.assertEqual(self.fails_at(world, 6 - len(new_world().messages()), NetworkFull, deeds).limit, 6)
        self.assertEqual(world.room, 6)

    def test_the_first_of_several_counts(self):
        self.fails_at(new_world(), 1, NoMessage, [("tick_all",), ("deliver", 99), ("tick", 3)])

    def test_attempts_are_numbered_as_before(self):
        world = new_world()
        world.all_or_none(self.GOOD[:8])
        attempt = ("attempt", A, ((0, 0), (1, 0)))
        for turn in range(3):
            self.fails_at(world, 2, NoMachine, [attempt, ("deliver", 0), ("tick", 9)])
            self.fails_at(world, 1, NoSeating, [attempt, attempt])
        world.all_or_none([attempt])
        self.assertEqual([row[0] for row in world.view(0)["attempts"]], [1])
        self.assertEqual(world.messages(), ["ask 0 0 1 0"])

    def test_decided_meetings_are_taken_back(self):
        world = new_world()
        world.drive(Until(Road(), 2), 1000)
        before = list(world.decided_run())
        deeds = []
        other = new_world()
        other.drive(Until(Road(), 2), 1000)
        while len(other.decided_run()) < 4:
            deeds.append(Road()(other))
            other.perform(deeds[-1])
        self.fails_at(world, len(deeds), NoMessage, deeds + [("deliver", 1000)])
        self.assertEqual(list(world.decided_run()), before)
        world.all_or_none(deeds)
        self.assertEqual(look(world), look(other))

    def test_again_behind_a_failed_one(self):
        world = new_world()
        for turn in range(2):
            self.fails_at(world, 3, NoMessage, [("drop", 0)] * 3 + [("drop", 50)])
        world.all_or_none([("drop", 0)] * 2)
        self.fails_at(world, 2, NoMachine, [("tick_all",), ("deliver", 0), ("tick", -1)])
        expected = new_world()
        expected.all_or_none([("drop", 0)] * 2)
        for one in (world, expected):
            one.drive(Until(Road(), 3), 1000)
        self.assertEqual(look(world), look(expected))
        self.assertEqual(len(world.decided_run()), 3)

    def test_driven_while_the_deeds_are_performed(self):
        world = new_world()
        seen = []

        class Deed(tuple):
            """A deed that notes whether the world is driven when it is performed."""

            def __getitem__(self, at):
                seen.append(world.driven)
                return tuple.__getitem__(self, at)
        world.all_or_none([Deed(("drop", 0)), Deed(("tick_all",))])
        self.assertTrue(seen and all(seen))
        self.assertIs(world.driven, False)

    def test_behind_any_deeds(self):
        for program, world, numbers in wild_worlds(picked_programs(40, 35), 75, 34, 25):
            deeds = [picked_deed(numbers, world, program.machines) for turn in range(30)]
            before = look(world, program.machines)
            with self.assertRaises(NotDone):
                world.all_or_none(deeds + [("tick", 99)])
            self.assertEqual(look(world, program.machines), before)


if __name__ == "__main__":
    unittest.main()

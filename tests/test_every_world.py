"""What holds in every world, whatever messages are lost, repeated and delayed (points 1 and 35 to 40)."""

import random
import unittest

from fullseats.listing import fault
from fullseats.messages import Message
from fullseats.plain import Plain
from fullseats.policies import Road, Until
from fullseats.runs import Run, joined
from fullseats.world import World
from helpers import SAMPLES, picked_programs, picked_run, wild_worlds

BUSY = [SAMPLES[name] for name in ("many choices", "six machines", "it depends on what was received")]


def rows_for(menu, home):
    """The rows of a machine with this menu for a home, by the words of point 23."""
    return tuple(
        (place, channel, seat, value) for place, (channel, seat, seats, value) in enumerate(menu)
        if isinstance(channel, tuple) and channel[2] == seats and channel[0] == home
    )


def views(program, world):
    """The views of all machines."""
    return [world.view(machine) for machine in range(program.machines)]


class Invariants(unittest.TestCase):
    def check(self, program, world):
        """Checks points 35 to 37."""
        decided = list(world.decided_run())
        self.assertIsNone(fault(program, decided))
        told = views(program, world)
        self.check_logs(program, decided, [view["log"] for view in told])
        plain = Plain(program)
        # The menu and the number of channels of every machine in every turn so far.
        before = {(number, 0): (plain.menu_of(number), plain.created_by(number)) for number in range(program.machines)}
        for channel, parts in decided:
            plain.meet(channel, tuple(part[::2] for part in parts))
            for machine, turn, place, value in parts:
                before[machine, turn + 1] = (plain.menu_of(machine), plain.created_by(machine))
        for machine, view in enumerate(told):
            self.assertEqual(view["turn"], len(view["log"]))
            self.assertEqual((view["menu"], view["created"]), before[machine, view["turn"]])
            self.check_told(machine, view, before)
            self.check_home(machine, view, told, before)

    def check_logs(self, program, decided, logs):
        """Checks point 36."""
        for machine, log in enumerate(logs):
            mine = [meeting for meeting in decided if machine in [part[0] for part in meeting[1]]]
            self.assertIn(log, (mine, mine[:-1]))
        common = [meeting for meeting in decided if any(meeting in log for log in logs)]
        self.assertIsNone(fault(program, common))
        self.assertTrue(joined(logs) == Run(common))

    def check_told(self, machine, view, before):
        """What a party has told are its rows in that turn."""
        homes = [home for home, turn, rows, heard in view["told"]]
        self.assertEqual(homes, sorted(set(homes)))
        for home, turn, rows, heard in view["told"]:
            self.assertEqual(rows, rows_for(before[machine, turn][0], home))

    def check_home(self, home, view, told, before):
        """Checks point 37."""
        for machine, turn, rows in view["book"]:
            self.assertLessEqual(turn, told[machine]["turn"])
            if rows:
                self.assertEqual(rows, rows_for(before[machine, turn][0], home))
        asked = [part[0] for attempt, meeting, yes in view["attempts"] for part in meeting[1]]
        self.assertEqual(len(asked), len(set(asked)))

    def test_any_deeds_in_any_order(self):
        meetings = 0
        for program, world, numbers in wild_worlds(picked_programs(60, 35) + BUSY * 8, 200, 36, 10):
            self.check(program, world)
            meetings = max(meetings, len(world.decided_run()))
        self.assertGreater(meetings, 8)

    def test_long_worlds(self):
        for program, world, numbers in wild_worlds(BUSY, 3000, 37, 500):
            self.check(program, world)
        self.assertGreater(len(world.decided_run()), 20)

    def test_every_message_can_be_read(self):
        kinds = {}
        for program, world, numbers in wild_worlds(picked_programs(30, 24) + BUSY * 3, 150, 23, 5):
            for text in world.messages():
                self.assertEqual(Message.read(text).written(), text)
                kinds[text.split(" ")[0]] = True
        self.assertEqual(sorted(kinds), ["ask", "done", "free", "heard", "no", "offers", "yes"])


class Rest(unittest.TestCase):
    def check(self, program, world):
        """Checks point 38 for a world that is at rest."""
        plain = Plain(program)
        for channel, parts in world.decided_run():
            plain.meet(channel, tuple(part[::2] for part in parts))
        self.assertTrue(plain.stuck())
        self.assertEqual(world.all_channels(), plain.all_channels())
        for channel in world.all_channels():
            self.assertIsNone(world.first_on(channel))
            self.assertIsNotNone(world.bar_on(channel))
            self.assertEqual(world.bar_on(channel), plain.bar_on(channel))
        for home, view in enumerate(views(program, world)):
            self.assertEqual((view["bound"], view["waiting"], view["attempts"], view["decided"]), (None, [], [], []))
            self.assertEqual(view["menu"], plain.menu_of(home))
            expected = [(machine, rows_for(plain.menu_of(machine), home)) for machine in range(program.machines)]
            book = [(machine, rows) for machine, turn, rows in view["book"] if rows]
            self.assertEqual(book, [(machine, rows) for machine, rows in expected if rows])
            self.assertTrue(all(turn == plain.turn_of(machine) for machine, turn, rows in view["book"] if rows))

    def test_behind_any_deeds(self):
        rests = 0
        for program, world, numbers in wild_worlds(picked_programs(200, 38), 80, 39, 80):
            world.drive(Until(Road(), 12), 3000)
            self.assertTrue(world.at_rest() or len(world.decided_run()) >= 12)
            if world.at_rest():
                rests += 1
                self.check(program, world)
        self.assertGreater(rests, 100)

    def test_whenever_a_world_is_at_rest(self):
        rests = 0
        for program, world, numbers in wild_worlds(picked_programs(60, 40), 200, 41, 1):
            if world.at_rest():
                rests += 1
                self.check(program, world)
        self.assertGreater(rests, 50)

    def test_it_is_at_rest_exactly_if_the_road_ends(self):
        for program, world, numbers in wild_worlds(picked_programs(60, 42) + BUSY, 100, 43, 2):
            self.assertEqual(world.at_rest(), Road()(world) is None)


class Progress(unittest.TestCase):
    def check(self, program, world):
        """Checks point 39 from the present state on."""
        waiting = sum(len(view["waiting"]) for view in views(program, world))
        bound = 8 * (len(world.messages()) + waiting) + 16 * (program.machines + 1) ** 2
        decided = len(world.decided_run())
        count = world.drive(Until(Road(), decided + 1), bound + 1)
        self.assertLessEqual(count, bound)
        self.assertTrue(len(world.decided_run()) == decided + 1 or world.at_rest())

    def test_behind_any_deeds(self):
        for program, world, numbers in wild_worlds(picked_programs(60, 44) + BUSY * 5, 120, 45, 15):
            self.check(program, world)

    def test_with_everything_lost(self):
        for program, world, numbers in wild_worlds(picked_programs(60, 46) + BUSY * 5, 120, 47, 20):
            for message in world.messages():
                world.perform(("drop", 0))
            self.check(program, world)

    def test_with_everything_doubled(self):
        for program, world, numbers in wild_worlds(picked_programs(60, 48) + BUSY * 5, 120, 49, 30):
            for at in range(min(len(world.messages()), 100)):
                world.perform(("repeat", at))
            self.check(program, world)

    def test_behind_many_ticks(self):
        for program, world, numbers in wild_worlds(BUSY * 4, 100, 50, 50):
            for turn in range(8):
                world.perform(("tick_all",))
            self.check(program, world)

    def test_at_once_and_on_and_on(self):
        for program in picked_programs(60, 51) + BUSY:
            world = World(program)
            for turn in range(6):
                self.check(program, world)

    def test_every_message_of_a_kind_is_lost_once(self):
        for lost in ("offers", "heard", "ask", "yes", "done"):
            world = World(SAMPLES["two that meet for ever"])
            for turn in range(12):
                for at, text in enumerate(world.messages()):
                    if text.startswith(lost):
                        world.perform(("drop", at))
                        break
                self.check(SAMPLES["two that meet for ever"], world)
            self.assertEqual(len(world.decided_run()), 12)


class Copies(unittest.TestCase):
    def test_a_copy_right_behind_its_message_changes_nothing(self):
        kinds = {}
        for program, world, numbers in wild_worlds(picked_programs(80, 52) + BUSY * 12, 150, 53, 3):
            world.room = 1000
            count = len(world.messages())
            if 0 < count < 1000:
                at = numbers.randrange(count)
                kind, to = world.messages()[at].split(" ")[:2]
                world.perform(("repeat", at))
                world.perform(("deliver", at))
                before = world.view(int(to))
                decided = world.decided_run()
                world.perform(("deliver", count - 1))
                self.assertEqual(world.view(int(to)), before)
                self.assertEqual(list(world.decided_run()), list(decided))
                kinds[kind] = True
        self.assertEqual(sorted(kinds), ["ask", "done", "free", "heard", "no", "offers", "yes"])


class BothWays(unittest.TestCase):
    def test_the_world_performs_a_run_and_can_perform_every_run(self):
        numbers = random.Random(1)
        for program in picked_programs(60, 54):
            run = picked_run(numbers, program, 5)
            world = World(program)
            for channel, parts in run:
                while world.messages():
                    world.perform(("deliver", 0))
                world.perform(("attempt", channel, tuple(part[::2] for part in parts)))
            while world.messages():
                world.perform(("deliver", 0))
            self.assertEqual(list(world.decided_run()), run)


if __name__ == "__main__":
    unittest.main()

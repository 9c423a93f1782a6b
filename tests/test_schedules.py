"""Deeds that lead a new world to a run (points 1, 2 and 41)."""

import copy
import itertools
import random
import unittest

from fullseats.errors import NoRun
from fullseats.listing import runs
from fullseats.schedules import schedule
from fullseats.world import World
from helpers import LARGE, SAMPLES, TermCase, picked_programs, picked_run

# The number of parts of each kind of deed.
COUNTS = {"deliver": 2, "drop": 2, "repeat": 2, "tick": 2, "tick_all": 1, "attempt": 3}


class Schedules(TermCase):
    def check(self, program, meetings):
        """The deeds lead a new world to exactly these meetings, and there are not too many of them."""
        passed = copy.deepcopy(meetings)
        deeds = schedule(program, passed)
        self.assertIs(type(deeds), list)
        for deed in deeds:
            self.assertIs(type(deed), tuple)
            self.assertIn(deed[0], COUNTS)
            self.assertEqual(len(deed), COUNTS[deed[0]])
        for seating in [deed[2] for deed in deeds if deed[0] == "attempt"]:
            self.assertTrue(type(seating) is tuple and all(type(pair) is tuple for pair in seating))
        self.assertEqual(passed, meetings)
        self.assertLessEqual(len(deeds), 16 * (program.machines + 1) ** 2 * (1 + len(meetings)))
        world = World(program)
        for deed in deeds:
            world.perform(deed)
        self.assertEqual(list(world.decided_run()), meetings)
        other = World(program)
        other.all_or_none(deeds)
        self.assertEqual(list(other.decided_run()), meetings)

    def test_no_meetings(self):
        for program in picked_programs(40, 41):
            self.check(program, [])

    def test_all_short_runs(self):
        for program in picked_programs(40, 42):
            for meetings in itertools.islice(runs(program, 3), 25):
                self.check(program, meetings)

    def test_long_runs(self):
        numbers = random.Random(41)
        for program in picked_programs(60, 43):
            self.check(program, picked_run(numbers, program, 15))

    def test_a_very_long_run(self):
        self.check(SAMPLES["alone on a channel with one seat"],
                   picked_run(random.Random(1), SAMPLES["alone on a channel with one seat"], 200))

    def test_other_orders_of_the_same_meetings(self):
        numbers = random.Random(44)
        for program in picked_programs(40, 45):
            meetings = picked_run(numbers, program, 4)
            for order in itertools.permutations(meetings):
                try:
                    schedule(program, list(order))
                except NoRun:
                    continue
                self.check(program, list(order))

    def test_no_run(self):
        numbers = random.Random(45)
        for program in picked_programs(40, 46):
            meetings = picked_run(numbers, program, 5)
            for at in range(len(meetings) + 1):
                for wrong in (
                    ((0, 0, 2), ()), ((9, 9, 1), ((9, 0, 0, 5),)), ((-1, 0, 1), ((-1, 0, 0, 5),)),
                    ((LARGE, LARGE, 1), ((LARGE, LARGE, LARGE, LARGE),)),
                ):
                    spoilt = meetings[:at] + [wrong] + meetings[at:]
                    self.fails(NoRun, at, schedule, program, spoilt)
                    self.assertTrue(spoilt == meetings[:at] + [wrong] + meetings[at:])
            if meetings:
                self.fails(NoRun, len(meetings), schedule, program, meetings + meetings[-1:])
                (channel, parts) = meetings[-1]
                for column in range(4):
                    part = parts[-1][:column] + (77,) + parts[-1][column + 1:]
                    spoilt = meetings[:-1] + [(channel, parts[:-1] + (part,))]
                    self.fails(NoRun, len(meetings) - 1, schedule, program, spoilt)

    def test_the_deeds_can_be_changed(self):
        program = SAMPLES["many choices"]
        meetings = picked_run(random.Random(2), program, 3)
        deeds = schedule(program, meetings)
        expected = list(deeds)
        deeds.clear()
        self.assertEqual(schedule(program, meetings), expected)


if __name__ == "__main__":
    unittest.main()

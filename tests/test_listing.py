"""Which sequences are runs, and all runs of a program (points 2 and 19)."""

import copy
import inspect
import itertools
import random
import unittest

from fullseats.listing import fault, runs
from fullseats.plain import Plain
from helpers import LARGE, SAMPLES, picked_programs, picked_run, read, steps_in


def runs_by_trying(program, most, begun=()):
    """All runs that begin with a run, in their order, found by trying."""
    plain = Plain(program)
    for channel, chosen in begun:
        plain.meet(channel, chosen)
    found = [list(plain.meetings())]
    if len(begun) < most:
        for step in steps_in(plain, program.machines):
            found += runs_by_trying(program, most, (*begun, step))
    return found


def spoilt(meeting):
    """Meetings that differ from a meeting in one thing."""
    (home, number, seats), parts = meeting
    for channel in (
        (home + 1, number, seats), (home, number + 1, seats), (home, number, seats + 1), (home, number, seats - 1),
        (-1, number, seats), (home, LARGE, seats), (home - 6, number, seats),
    ):
        yield (channel, parts)
    others = [(), parts[::-1]]
    for at, part in enumerate(parts):
        for column, wrong in itertools.product(range(4), (-1, 7, LARGE, -LARGE, (0, 0, 9))):
            others.append(parts[:at] + (part[:column] + (wrong,) + part[column + 1:],) + parts[at + 1:])
        others.append(parts[:at] + parts[at + 1:])
        others.append(parts[:at] + (part, part) + parts[at + 1:])
    for wrong in others:
        if wrong != parts and not any(isinstance(part[0], tuple) for part in wrong):
            yield (meeting[0], wrong)


class Faults(unittest.TestCase):
    def check(self, expected, program, meetings):
        """Compares the fault, and sees that the list stays."""
        passed = list(meetings)
        self.assertEqual(fault(program, passed), expected)
        self.assertTrue(passed == list(meetings))

    def test_runs_and_their_beginnings_have_none(self):
        numbers = random.Random(19)
        for program in picked_programs(80, 20):
            run = picked_run(numbers, program, 8)
            for count in range(len(run) + 1):
                self.check(None, program, run[:count])

    def test_a_meeting_that_is_recorded_wrongly(self):
        numbers = random.Random(20)
        for program in picked_programs(30, 21):
            run = picked_run(numbers, program, 5)
            for at, meeting in enumerate(run):
                for wrong in spoilt(meeting):
                    self.check(at, program, run[:at] + [wrong] + run[at + 1:])
                    self.check(at, program, run[:at] + [wrong])

    def test_each_thing_alone(self):
        program = SAMPLES["two that meet for ever"]
        channel = (1, 0, 2)
        first = (channel, ((0, 0, 0, 7), (1, 0, 0, 8)))
        second = (channel, ((0, 1, 0, 8), (1, 1, 0, 7)))
        self.check(None, program, [first, second])
        for wrong in (
            ((0, 0, 2), second[1]), ((1, 1, 2), second[1]), ((1, 0, 3), second[1]),
            (channel, ((0, 1, 0, 8), (0, 1, 0, 7))), (channel, ((0, 1, 0, 8), (2, 1, 0, 7))),
            (channel, ((0, 1, 0, 8), (-1, 1, 0, 7))), (channel, ((-2, 1, 0, 8), (1, 1, 0, 7))),
            (channel, ((0, 0, 0, 8), (1, 1, 0, 7))), (channel, ((0, 1, 0, 8), (1, 2, 0, 7))),
            (channel, ((0, 1, 1, 8), (1, 1, 0, 7))), (channel, ((0, 1, 0, 8), (1, 1, -1, 7))),
            (channel, ((0, 1, 0, 7), (1, 1, 0, 7))), (channel, ((0, 1, 0, 8), (1, 1, 0, channel))),
            (channel, second[1][::-1]), (channel, second[1][:1]), (channel, second[1] + second[1][:1]), (channel, ()),
            first,
        ):
            self.check(1, program, [first, wrong])
            self.check(1, program, [first, wrong, second])
            self.check(0, program, [wrong, second] if wrong != first else [second])

    def test_sequences_that_do_not_fit_the_program_at_all(self):
        for program in SAMPLES.values():
            for meetings in (
                [((0, 0, 2), ())], [((9, 9, 4), ((9, 9, 9, 9),))], [((-1, -1, -1), ((-1, -1, -1, -1),))],
                [((LARGE, LARGE, LARGE), ((LARGE, LARGE, LARGE, LARGE),))], [((0, 0, 0), ())],
                [((0, 0, 7), tuple((machine, 0, 0, 0) for machine in range(7)))],
            ):
                self.check(0, program, meetings * 2)

    def test_the_first_of_several_faults_counts(self):
        run = picked_run(random.Random(3), SAMPLES["many choices"], 6)
        wrong = ((0, 0, 2), ())
        self.check(2, SAMPLES["many choices"], run[:2] + [wrong] * 3 + run[2:])
        self.check(6, SAMPLES["many choices"], run + [wrong])

    def test_a_meeting_comes_once(self):
        for program in picked_programs(30, 5):
            run = picked_run(random.Random(5), program, 4)
            for at in range(len(run)):
                self.check(len(run), program, run + [run[at]])


class Runs(unittest.TestCase):
    def test_against_trying_everything(self):
        numbers = random.Random(3)
        for program in picked_programs(60, 4):
            for most in (0, 1, 2):
                expected = runs_by_trying(program, most)
                self.assertEqual(list(runs(program, most)), expected)
            if len(expected) < 40:
                self.assertEqual(list(runs(program, 4)), runs_by_trying(program, 4))

    def test_an_example(self):
        program = read(
            "channel a 1 at 0", "channel b 1 at 0",
            "start [ b 0 / 1 put 1 get ( ) then stop + a 0 / 1 put 2 get ( ) then [ a 0 / 1 put 3 get ( ) then stop ]"
            " + a 0 / 1 put 4 get ( ) then stop ]",
        )
        a, b = (0, 0, 1), (0, 1, 1)
        one, two, three = (a, ((0, 0, 1, 2),)), (a, ((0, 1, 0, 3),)), (a, ((0, 0, 2, 4),))
        self.assertEqual(list(runs(program, 9)), [[], [one], [one, two], [three], [(b, ((0, 0, 0, 1),))]])
        self.assertEqual(list(runs(program, LARGE)), list(runs(program, 2)))
        self.assertEqual(list(runs(program, 1)), [[], [one], [three], [(b, ((0, 0, 0, 1),))]])

    def test_the_order(self):
        program = read(
            "channel a 2 at 0",
            "define f ( ) [ a 0 / 2 put 1 get ( x ) then f ( ) + a 1 / 2 put 2 get ( x ) then f ( ) ]",
            "start f ( )", "start f ( )", "start f ( )",
        )
        for made in runs(program, 2):
            self.assertIsNone(fault(program, made))
        steps = [
            [(channel, tuple(part[::2] for part in parts)) for channel, parts in made] for made in runs(program, 3)
        ]
        self.assertEqual(steps, sorted(steps))
        self.assertEqual(len(steps), 1 + 6 + 36 + 216)

    def test_each_run_once_and_the_empty_one_first(self):
        for program in picked_programs(30, 6):
            found = list(itertools.islice(runs(program, 3), 400))
            self.assertEqual(found[0], [])
            self.assertEqual(len({tuple(made) for made in found}), len(found))
            for made in found:
                self.assertLessEqual(len(made), 3)
                self.assertIsNone(fault(program, made))

    def test_no_meetings(self):
        for program in SAMPLES.values():
            self.assertEqual(list(runs(program, 0)), [[]])
        self.assertEqual(list(runs(SAMPLES["nothing to do"], 5)), [[]])

    def test_they_come_one_by_one(self):
        self.assertTrue(inspect.isgenerator(runs(SAMPLES["many choices"], 3)))
        for name in ("many choices", "six machines", "two that meet for ever"):
            for most in (10, 1000, LARGE):
                first = list(itertools.islice(runs(SAMPLES[name], most), 9))
                self.assertEqual([len(made) for made in first], list(range(9)))

    def test_very_many_seatings(self):
        offers = " + ".join(f"a {seat} / 4 put {seat} get ( x y z ) then f ( )" for seat in (0, 1, 2, 3, 0, 1))
        program = read("channel a 4 at 0", f"define f ( ) [ {offers} ]", *["start f ( )"] * 6)
        first = list(itertools.islice(runs(program, 100), 5))
        self.assertEqual([len(made) for made in first], list(range(5)))
        self.assertEqual(first[1], [((0, 0, 4), ((0, 0, 0, 0), (1, 0, 1, 1), (2, 0, 2, 2), (3, 0, 3, 3)))])

    def test_long_runs(self):
        program = SAMPLES["alone on a channel with one seat"]
        made = None
        for made in itertools.islice(runs(program, LARGE), 2500):
            pass
        self.assertEqual(len(made), 2499)
        self.assertEqual(made[-1], ((0, 0, 1), ((0, 2498, 0, 1),)))

    def test_a_run_that_is_changed_changes_nothing_that_comes_later(self):
        for program in picked_programs(20, 7):
            expected = list(itertools.islice(runs(program, 3), 60))
            found = []
            for made in itertools.islice(runs(program, 3), 60):
                found.append(copy.copy(made))
                made.clear()
                made.append("something")
            self.assertEqual(found, expected)

    def test_two_generators_in_turn(self):
        program = SAMPLES["many choices"]
        expected = list(itertools.islice(runs(program, 4), 30))
        one, other = runs(program, 4), runs(program, 4)
        for made in expected:
            self.assertEqual(next(one), made)
            self.assertEqual(next(other), made)

    def test_a_plain_machine_is_apart(self):
        program = SAMPLES["two that meet for ever"]
        plain = Plain(program)
        list(runs(program, 5))
        self.assertEqual((plain.turn_of(0), len(plain.meetings())), (0, 0))


if __name__ == "__main__":
    unittest.main()

"""Logs that fit together, and their join (point 22)."""

import copy
import itertools
import random
import unittest

from fullseats.errors import NoJoin
from fullseats.listing import fault
from fullseats.runs import Run, joined
from helpers import LARGE, SAMPLES, picked_programs, picked_run

A = (0, 0, 2)
# Values of both kinds, which cannot be compared by order.
VALUES = (5, (0, 0, 2), -3, (1, 0, 2), 0, (0, 0, 1))


def meeting(*turns, channel=A):
    """A meeting with a part for each pair of a machine and its turn."""
    return (channel, tuple((machine, turn, 0, 5) for machine, turn in turns))


def logs_of(meetings, machines):
    """The logs of all machines."""
    return [[one for one in meetings if any(part[0] == machine for part in one[1])] for machine in range(machines)]


def is_ready(one, left):
    """Whether a meeting shares no machine with another one that is left and has an earlier turn of that machine."""
    return not any(
        part[0] == other[0] and other[1] < part[1] for among in left for other in among[1] for part in one[1]
    )


def join_by_steps(logs):
    """The join, built by the words of point 22."""
    left = []
    for one in [one for log in logs for one in log]:
        if one not in left:
            left.append(one)
    chosen = []
    while left:
        least = min(one for one in left if is_ready(one, left))
        chosen.append(least)
        left.remove(least)
    return chosen


def all_turns(logs):
    """All machines and turns of the parts in the logs, each with its meeting."""
    return [((part[0], part[1]), one) for log in logs for one in log for part in one[1]]


def has_a_ring(logs):
    """Whether a meeting depends on itself, where a later turn of a machine depends on the earlier ones."""
    found = all_turns(logs)
    left = [one for log in logs for one in log]
    while True:
        first = [
            one for one in left
            if not any(other in left and machine == part[0] and turn < part[1]
                       for part in one[1] for (machine, turn), other in found)
        ]
        if not first:
            return left != []
        left = [one for one in left if one not in first]


def fit_together(logs):
    """Whether logs fit together, by the words of point 22."""
    for machine, log in enumerate(logs):
        for at, (channel, parts) in enumerate(log):
            if len({part[0] for part in parts}) < len(parts) or (machine, at) not in [part[:2] for part in parts]:
                return False
    for (machine, turn), one in all_turns(logs):
        if not 0 <= machine < len(logs) or not 0 <= turn <= len(logs[machine]):
            return False
        if turn < len(logs[machine]) and logs[machine][turn] != one:
            return False
    for (at, one), (where, other) in itertools.combinations(all_turns(logs), 2):
        if at == where and one != other:
            return False
    return not has_a_ring(logs)


def picked_logs(numbers):
    """Logs of two to four machines that fit together, with values of both kinds."""
    machines = numbers.randint(2, 4)
    turns = [0] * machines
    meetings = []
    for count in range(numbers.randint(1, 4)):
        takers = numbers.sample(range(machines), numbers.randint(1, machines))
        parts = tuple((machine, turns[machine], numbers.randint(0, 1), numbers.choice(VALUES)) for machine in takers)
        meetings.append(((0, numbers.randint(0, 1), len(parts)), parts))
        for machine in takers:
            turns[machine] += 1
    logs = logs_of(meetings, machines)
    for log in logs:
        if log and numbers.randint(0, 1):
            log.pop()
    return logs


def spoil(numbers, logs):
    """Changes something in one of the logs."""
    log = numbers.choice(logs)
    what = numbers.randint(0, 3)
    if what == 0 and log:
        log.pop()
    elif what == 1:
        log.append(numbers.choice([one for other in logs for one in other] + [meeting((0, len(log)))]))
    elif log:
        at = numbers.randrange(len(log))
        channel, parts = log[at]
        seat = numbers.randrange(len(parts))
        machine, turn, place, value = parts[seat]
        changed = (machine, turn + numbers.randint(-1, 1), place, value)
        if what == 3:
            changed = (machine, turn, place, numbers.choice(VALUES))
        log[at] = (channel, parts[:seat] + (changed,) + parts[seat + 1:])


class JoinCase(unittest.TestCase):
    def refused(self, *logs):
        """These logs do not fit together."""
        passed = copy.deepcopy(list(logs))
        with self.assertRaises(NoJoin):
            joined(passed)
        self.assertTrue(passed == list(logs))

    def fits(self, expected, *logs):
        """These logs fit together, and their join is as expected."""
        passed = copy.deepcopy(list(logs))
        made = joined(passed)
        self.assertIsInstance(made, Run)
        self.assertEqual(list(made), expected)
        self.assertEqual(passed, list(logs))


class Joins(JoinCase):
    def test_no_logs_and_empty_logs(self):
        self.fits([])
        for count in range(1, 7):
            self.fits([], *[[]] * count)

    def test_one_machine(self):
        alone = [meeting((0, turn)) for turn in range(4)]
        self.fits(alone, alone)
        self.fits(alone, alone, [], [])

    def test_each_meeting_comes_once(self):
        both = [meeting((0, turn), (1, turn)) for turn in range(3)]
        self.fits(both, both, both)

    def test_a_machine_may_miss_its_last_meeting(self):
        both = [meeting((0, turn), (1, turn)) for turn in range(3)]
        self.fits(both, both, both[:-1])
        self.fits(both, both[:-1], both)
        self.fits(both[:1], both[:1], [])
        self.fits([meeting((2, 0), (1, 0), (0, 0))], [], [], [meeting((2, 0), (1, 0), (0, 0))])
        # Two of its meetings are too many.
        self.refused(both, both[:-2])

    def test_the_least_ready_meeting_comes_next(self):
        # The channel counts first, then the parts.
        one, other = meeting((0, 0), channel=(1, 0, 1)), meeting((1, 0), channel=(0, 9, 1))
        self.fits([other, one], [one], [other])
        one, other = meeting((1, 0)), meeting((0, 0))
        self.fits([other, one], [other], [one])
        # Number 10 comes behind number 9, and a later meeting of a machine may come before another machine's first one.
        first, second = meeting((0, 0), channel=(0, 9, 1)), meeting((0, 1), channel=(0, 1, 1))
        self.fits([first, second, meeting((1, 0), channel=(0, 10, 1))], [first, second],
                  [meeting((1, 0), channel=(0, 10, 1))])

    def test_a_meeting_waits_for_all_of_its_machines(self):
        least = meeting((0, 0), (1, 1), channel=(0, 0, 2))
        before = meeting((1, 0), channel=(9, 9, 1))
        self.fits([before, least], [least], [before, least])
        # Also if the machine misses it in its log.
        self.fits([before, least], [least], [before])
        self.fits([before, least], [], [before, least])

    def test_integers_and_channels_as_values(self):
        one = (A, ((0, 0, 0, 5), (1, 0, 0, (0, 0, 2))))
        other = (A, ((2, 0, 0, (0, 0, 2)), (3, 0, 0, 5)))
        third = (A, ((0, 1, 0, (0, 0, 2)), (2, 1, 0, -5)))
        self.fits([one, other, third], [one, third], [one], [other, third], [other])

    def test_values_of_both_kinds_on_one_channel(self):
        # All meetings are ready at once; what differs first is the machine, and then the value.
        for one, other, third in itertools.product(VALUES, repeat=3):
            ready = [(A, ((machine, 0, 0, value),)) for machine, value in enumerate((one, other, third))]
            self.fits(ready, *[[made] for made in ready])

    def test_one_meeting_in_several_logs_is_compared_with_itself(self):
        for values in itertools.permutations(VALUES, 2):
            both = (A, ((1, 0, 0, values[0]), (0, 0, 0, values[1])))
            self.fits([both], [both], [both])

    def test_the_logs_of_runs(self):
        numbers = random.Random(22)
        for program in picked_programs(150, 23):
            run = picked_run(numbers, program, 12)
            logs = logs_of(run, program.machines)
            self.fits(join_by_steps(logs), *logs)
            self.assertTrue(joined(logs) == Run(run))
            self.assertIsNone(fault(program, list(joined(logs))))
            for machine in range(program.machines):
                self.one_shorter(program, logs, machine)

    def one_shorter(self, program, logs, machine):
        """The log of one machine misses its last meeting."""
        shorter = logs[:machine] + [logs[machine][:-1]] + logs[machine + 1:]
        self.fits(join_by_steps(shorter), *shorter)
        self.assertIsNone(fault(program, list(joined(shorter))))

    def test_every_log_misses_the_same_last_meetings(self):
        run = picked_run(random.Random(1), SAMPLES["six machines"], 20)
        for count in range(len(run) + 1):
            logs = logs_of(run[:count], 6)
            self.fits(join_by_steps(logs), *logs)

    def test_a_log_that_misses_another_entry_does_not_fit(self):
        for seed in range(5):
            run = picked_run(random.Random(seed), SAMPLES["many choices"], 20)
            logs = logs_of(run, 5)
            for machine in range(5):
                for at in range(len(logs[machine]) - 1):
                    wrong = copy.deepcopy(logs)
                    del wrong[machine][at]
                    self.refused(*wrong)

    def test_a_long_join(self):
        alone = [meeting((0, turn)) for turn in range(2500)]
        self.fits(alone, alone)


class Conditions(JoinCase):
    """Each condition of point 22 is broken alone."""

    def test_one_machine_twice_in_a_meeting(self):
        self.refused([meeting((0, 0), (0, 0))])
        self.refused([meeting((0, 0), (0, 1))])
        twice = meeting((0, 0), (1, 0), (1, 0))
        self.refused([twice], [twice])
        self.refused([twice], [])

    def test_an_entry_without_a_part_of_its_machine(self):
        self.refused([meeting((1, 0))], [meeting((1, 0))])
        self.refused([meeting((1, 0))], [])
        self.refused([(A, ())])
        self.refused([(A, ())], [(A, ())])

    def test_a_wrong_turn(self):
        self.refused([meeting((0, 1))])
        self.refused([meeting((0, 0)), meeting((0, 2))])
        self.refused([meeting((0, 0)), meeting((0, 0), channel=(0, 1, 2))])
        self.refused([meeting((0, 1)), meeting((0, 0))])
        self.refused([meeting((0, 0)), meeting((0, 0))])

    def test_a_machine_without_a_log(self):
        for machine in (1, 2, -1, LARGE, -LARGE):
            self.refused([meeting((0, 0), (machine, 0))])

    def test_a_negative_turn(self):
        self.refused([meeting((0, -1))])
        last = meeting((1, 0))
        for turn in (-1, -2, -LARGE):
            self.refused([meeting((0, 0), (1, turn))], [])
            self.refused([meeting((0, 0), (1, turn))], [last])
        # Index -1 of the log of machine 1 would be this very meeting.
        odd = meeting((0, 0), (1, -1))
        self.refused([odd], [odd])

    def test_a_turn_beyond_the_end_of_a_log(self):
        self.fits([meeting((0, 0), (1, 0))], [meeting((0, 0), (1, 0))], [])
        for turn in (1, 2, LARGE):
            self.refused([meeting((0, 0), (1, turn))], [])
        self.refused([meeting((0, 0), (1, 2))], [meeting((1, 0))])

    def test_the_log_of_another_machine_has_another_meeting_in_this_turn(self):
        self.refused([meeting((0, 0), (1, 0))], [meeting((1, 0))])
        one = (A, ((0, 0, 0, 5), (1, 0, 0, 6)))
        for other in (
            (A, ((0, 0, 0, 5), (1, 0, 0, 7))), (A, ((0, 0, 1, 5), (1, 0, 0, 6))),
            ((0, 1, 2), ((0, 0, 0, 5), (1, 0, 0, 6))), (A, ((1, 0, 0, 6), (0, 0, 0, 5))),
        ):
            self.refused([one], [other])

    def test_different_meetings_with_the_same_machine_and_turn(self):
        # Machine 2 has no meeting in its log, and two others want it in its turn 0.
        self.refused([meeting((0, 0), (2, 0))], [meeting((1, 0), (2, 0))], [])
        self.refused([meeting((0, 0), (2, 0))], [meeting((1, 0), (2, 0), channel=(0, 1, 2))], [])
        self.refused([meeting((0, 0), (2, 0)), meeting((0, 1), (2, 0))], [], [])

    def test_different_meetings_whose_values_are_not_of_one_kind(self):
        # Up to the value of machine 2 both meetings are the same.
        for one, other in itertools.product(VALUES, repeat=2):
            first, second = (A, ((2, 0, 0, one), (0, 0, 0, 1))), (A, ((2, 0, 0, other), (1, 0, 0, 1)))
            self.refused([first], [second], [])
            self.refused([second], [first], [])
            self.fits([first], [first], [], [])
            self.fits([second], [], [second], [second])

    def test_the_value_at_another_seat_is_not_of_one_kind(self):
        for seat in range(4):
            for one, other in itertools.permutations(VALUES, 2):
                first = [(machine, 0, 0, 1) for machine in (2, 3, 4, 5)]
                second = list(first)
                first[seat], second[seat] = (2 + seat, 0, 0, one), (2 + seat, 0, 0, other)
                first = ((0, 0, 5), tuple(first) + ((0, 0, 0, 1),))
                second = ((0, 0, 5), tuple(second) + ((1, 0, 0, 1),))
                self.refused([first], [second], [], [], [], [])
                self.refused([second], [first], [], [], [], [])

    def test_only_the_value_differs(self):
        for one, other in itertools.permutations(VALUES, 2):
            first, second = (A, ((0, 0, 0, one), (1, 0, 0, 1))), (A, ((0, 0, 0, other), (1, 0, 0, 1)))
            self.refused([first], [second])
            # A third machine misses the meeting of which the others have different records.
            first, second = (A, ((2, 0, 0, one),) + first[1]), (A, ((2, 0, 0, other),) + first[1])
            self.refused([first], [second], [])

    def test_different_meetings_with_the_same_end_behind_many_that_fit(self):
        before = [(A, ((0, turn, 0, turn), (1, turn, 0, A), (2, turn, 0, -turn))) for turn in range(50)]
        one, other = (A, ((2, 50, 0, 5), (0, 50, 0, 1))), (A, ((2, 50, 0, A), (1, 50, 0, 1)))
        self.refused(before + [one], before + [other], before)
        self.fits(before + [one], before + [one], before, before)
        # More meetings of the machines behind these do not matter.
        self.refused(before + [one, meeting((0, 51))], before + [other, meeting((1, 51))], before)

    def test_logs_that_were_changed(self):
        numbers = random.Random(13)
        answers = {True: 0, False: 0}
        for count in range(4000):
            logs = picked_logs(numbers)
            self.assertTrue(fit_together(logs))
            for changes in range(numbers.randint(0, 3)):
                spoil(numbers, logs)
            answers[fit_together(logs)] += 1
            if fit_together(logs):
                self.fits(join_by_steps(logs), *logs)
            else:
                self.refused(*logs)
        self.assertGreater(min(answers.values()), 1000)

    def test_a_ring_of_two(self):
        one, other = meeting((0, 0), (1, 1)), meeting((0, 1), (1, 0))
        self.refused([one, other], [other, one])
        # The end of each log is left open.
        self.refused([one, other], [other])
        self.refused([one], [other, one])

    def test_a_ring_of_three_and_more(self):
        for count in (3, 4, 5, 6):
            ring = [meeting((k, 0), ((k + 1) % count, 1)) for k in range(count)]
            logs = [[ring[k], ring[k - 1]] for k in range(count)]
            self.refused(*logs)
            self.fits([meeting((count, 0))], *[[]] * count, [meeting((count, 0))])
            self.refused(*logs, [meeting((count, 0))])
            # Without one of them there is no ring.
            chain = [list(log) for log in logs]
            chain[0].pop()
            chain[count - 1].pop(0)
            self.refused(*chain)

    def test_a_ring_behind_other_meetings(self):
        first = meeting((0, 0), (1, 0))
        one, other = meeting((0, 1), (1, 2)), meeting((0, 2), (1, 1))
        self.refused([first, one, other], [first, other, one])


if __name__ == "__main__":
    unittest.main()

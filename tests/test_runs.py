"""Run objects (points 2 and 20), and runs that are reordered (point 21)."""

import itertools
import random
import unittest

from fullseats.errors import Dependent, NoMeeting
from fullseats.listing import fault
from fullseats.plain import Plain
from fullseats.runs import Run
from helpers import LARGE, TermCase, picked_programs, picked_run

A, B = (0, 0, 2), (1, 0, 2)


def meeting(*machines, channel=A, value=5):
    """A meeting of machines, most of which a test does not care about."""
    return (channel, tuple((machine, 0, 0, value) for machine in machines))


def numbered(*groups):
    """Meetings of groups of machines, all different."""
    return [meeting(*group, value=number) for number, group in enumerate(groups)]


# Meetings that fit no program, and some that differ in one thing only.
ODD = [
    (A, ()), (B, ()), meeting(0), meeting(0, 0), meeting(-1, 3), meeting(5, value=-7), meeting(0, value=(0, 0, 2)),
    meeting(0, value=(0, 0, 3)), meeting(0, value=0), meeting(0, channel=(0, -1, 2)), (A, ((0, 1, 0, 5),)),
    (A, ((0, 0, 1, 5),)), (A, ((0, -1, -1, 5),)), meeting(*range(7)), (A, ((LARGE, LARGE, -LARGE, LARGE),)),
    ((LARGE, -LARGE, 0), ()), meeting(1, 0), meeting(0, 1),
]


class Sequences(TermCase):
    def test_no_one_and_several_meetings(self):
        for count in range(len(ODD) + 1):
            made = Run(ODD[:count])
            self.assertEqual(len(made), count)
            self.assertEqual(list(made), ODD[:count])
            self.assertTrue(all(made[k] == ODD[k] for k in range(count)))
            self.assertEqual([one for one in made], [made[k] for k in range(count)])

    def test_empty(self):
        self.assertIsInstance(Run.empty(), Run)
        self.assertEqual((len(Run.empty()), list(Run.empty())), (0, []))
        self.assertTrue(Run.empty() == Run([]))

    def test_no_other_index(self):
        for count in (0, 1, 4):
            made = Run(ODD[:count])
            for k in (count, count + 1, -1, -2, -count, -count - 1, LARGE, -LARGE):
                if k != 0 or count == 0:
                    self.fails(NoMeeting, k, lambda: made[k])

    def test_true_and_false_are_no_indexes(self):
        for k in (True, False):
            self.fails(NoMeeting, k, lambda: Run(ODD)[k])

    def test_the_list_that_was_passed_can_be_changed(self):
        passed = list(ODD)
        made = Run(passed)
        passed.clear()
        passed.append(meeting(4))
        self.assertEqual(list(made), ODD)
        made = Run(passed)
        made + made, made // 4, made - 4
        self.assertEqual(passed, [meeting(4)])

    def test_two_iterations_at_once(self):
        made = Run(ODD[:3])
        self.assertEqual(list(zip(made, made)), list(zip(ODD[:3], ODD[:3])))


class Equality(unittest.TestCase):
    def test_the_order_does_not_count(self):
        for order in itertools.permutations(ODD[2:7]):
            self.assertTrue(Run(list(order)) == Run(ODD[2:7]))
        self.assertTrue(Run(ODD) == Run(ODD[::-1]))
        self.assertFalse(Run(ODD) != Run(ODD[::-1]))

    def test_it_counts_how_often_each_meeting_comes(self):
        for k, once_more in enumerate(ODD):
            self.assertFalse(Run(ODD + [once_more]) == Run(ODD))
            self.assertFalse(Run(ODD) == Run([once_more] + ODD))
            self.assertFalse(Run(ODD[:k] + ODD[k + 1:]) == Run(ODD))
            self.assertTrue(Run(ODD + [once_more]) == Run([once_more] + ODD))
            other = ODD[k - 1]
            self.assertFalse(Run([once_more, once_more, other]) == Run([once_more, other, other]))

    def test_every_part_counts(self):
        for one, other in itertools.product(ODD, ODD):
            self.assertEqual(Run([one]) == Run([other]), one == other)
            self.assertEqual(Run([one, meeting(9)]) != Run([meeting(9), other]), one != other)

    def test_integers_and_channels_as_values(self):
        values = [0, (0, 0, 2), 2, (0, 0, 1), -3, (0, 1, 1)]
        meetings = [meeting(0, value=value) for value in values]
        for order in itertools.permutations(meetings):
            self.assertTrue(Run(list(order)) == Run(meetings))
        mixed = [(A, ((0, 0, 0, one), (1, 0, 0, other))) for one, other in itertools.product(values, values)]
        self.assertTrue(Run(mixed) == Run(mixed[::-1]))
        self.assertFalse(Run(mixed[1:]) == Run(mixed[:-1]))

    def test_other_things_are_not_equal(self):
        for other in ([], (), None, 0, [meeting(0)], "run"):
            self.assertFalse(Run([]) == other)
            self.assertTrue(Run([meeting(0)]) != other)


class Operators(unittest.TestCase):
    def test_plus(self):
        for cut in range(len(ODD) + 1):
            one, other = Run(ODD[:cut]), Run(ODD[cut:])
            both = one + other
            self.assertIsInstance(both, Run)
            self.assertEqual(list(both), ODD)
            self.assertEqual(list(other + one), ODD[cut:] + ODD[:cut])
            self.assertEqual((list(one), list(other)), (ODD[:cut], ODD[cut:]))
        made = Run(ODD[:2])
        self.assertEqual(list(made + made), ODD[:2] * 2)
        self.assertEqual(list(made + Run.empty()), ODD[:2])
        extended = made
        extended += Run(ODD[2:3])
        self.assertEqual((list(made), list(extended)), (ODD[:2], ODD[:3]))

    def test_the_meetings_of_a_machine_and_the_others(self):
        made = Run(ODD)
        for machine in list(range(-2, 9)) + [LARGE, -LARGE]:
            mine = [one for one in ODD if any(part[0] == machine for part in one[1])]
            self.assertIsInstance(made // machine, Run)
            self.assertIsInstance(made - machine, Run)
            self.assertTrue(list(made // machine) == mine)
            self.assertTrue(list(made - machine) == [one for one in ODD if one not in mine])
            self.assertTrue(made // machine + (made - machine) == made)
        self.assertEqual(list(made), ODD)

    def test_only_the_machine_of_a_part_counts(self):
        made = Run([((7, 7, 7), ((0, 1, 2, 3), (4, 5, 6, (8, 8, 1))))])
        for machine in range(9):
            self.assertEqual(len(made // machine), 1 if machine in (0, 4) else 0)
            self.assertEqual(len(made - machine), 0 if machine in (0, 4) else 1)

    def test_other_things_beside_an_operator(self):
        made = Run(ODD)
        for other in ([], ODD, (), None, "0", (0, 0, 2)):
            for action in (lambda: made + other, lambda: other + made, lambda: made // other, lambda: made - other):
                self.assertRaises(TypeError, action)
        for other in (made, True, False):
            self.assertRaises(TypeError, lambda: made // other)
            self.assertRaises(TypeError, lambda: made - other)

    def test_the_order_is_kept(self):
        meetings = numbered([0], [1], [0, 1], [2], [0], [1, 2])
        self.assertEqual(list(Run(meetings) // 0), [meetings[0], meetings[2], meetings[4]])
        self.assertEqual(list(Run(meetings) - 0), [meetings[1], meetings[3], meetings[5]])
        self.assertEqual(list(Run.empty() // 0), [])
        self.assertEqual(list(Run.empty() - 0), [])


def depends_by_chains(meetings, j, i):
    """Whether meeting j depends on meeting i, by the words of point 20."""
    machines = [{part[0] for part in parts} for channel, parts in meetings]
    return any(
        machines[j] & machines[between] and (between == i or depends_by_chains(meetings, between, i))
        for between in range(i, j)
    )


class Dependence(unittest.TestCase):
    def test_directly(self):
        made = Run(numbered([0, 1], [1, 2], [2], [3]))
        self.assertIs(made.depends(1, 0), True)
        self.assertIs(made.depends(2, 1), True)

    def test_over_a_chain(self):
        made = Run(numbered([0, 1], [1, 2], [9], [2, 3], [3, 4], [4]))
        for j in (1, 3, 4, 5):
            self.assertIs(made.depends(j, 0), True)
            self.assertIs(made.depends(5, j), True) if j < 5 else None

    def test_not_at_all(self):
        made = Run(numbered([0, 1], [2, 3], [3, 4], [0], [5]))
        for j, i in ((1, 0), (2, 0), (3, 1), (3, 2), (4, 0), (4, 1), (4, 2), (4, 3)):
            self.assertIs(made.depends(j, i), False)

    def test_what_comes_before_or_behind_is_no_link(self):
        made = Run(numbered([0, 1], [0], [1], [0, 1]))
        self.assertIs(made.depends(2, 1), False)
        # Machine 1 is reached only behind the meeting of machine 1.
        made = Run(numbered([0], [1], [0, 1], [1]))
        self.assertIs(made.depends(1, 0), False)
        self.assertIs(made.depends(3, 0), True)

    def test_without_parts_and_with_one_machine_twice(self):
        made = Run(numbered([0], [], [0, 0], [], [0]))
        self.assertEqual([made.depends(j, 0) for j in range(1, 5)], [False, True, False, True])
        self.assertEqual([made.depends(j, 1) for j in range(2, 5)], [False] * 3)
        self.assertIs(Run([meeting(), meeting()]).depends(1, 0), False)

    def test_machines_that_are_negative_or_large(self):
        made = Run(numbered([-1], [-2, LARGE], [LARGE, -1]))
        self.assertEqual([made.depends(1, 0), made.depends(2, 0), made.depends(2, 1)], [False, True, True])

    def test_many_sequences(self):
        numbers = random.Random(20)
        for turn in range(150):
            groups = [numbers.sample(range(6), numbers.choice([0, 1, 1, 2, 2, 3])) for number in range(7)]
            meetings = numbered(*groups)
            made = Run(meetings)
            for j in range(7):
                for i in range(j):
                    self.assertIs(made.depends(j, i), depends_by_chains(meetings, j, i))

    def test_a_long_run(self):
        made = Run(numbered(*[[k, k + 1] for k in range(3000)], [5000]))
        self.assertIs(made.depends(2999, 0), True)
        self.assertIs(made.depends(3000, 0), False)


class Exchange(TermCase):
    def test_neighbours_without_a_common_machine(self):
        meetings = numbered([0, 1], [2], [3, 4], [0])
        made = Run(meetings)
        for k in range(3):
            changed = made.exchanged(k)
            self.assertIsInstance(changed, Run)
            expected = list(meetings)
            expected[k], expected[k + 1] = expected[k + 1], expected[k]
            self.assertEqual(list(changed), expected)
            self.assertEqual(list(made), meetings)
            self.assertEqual(list(changed.exchanged(k)), meetings)

    def test_neighbours_with_a_common_machine(self):
        meetings = numbered([0, 1], [1, 2], [3], [3], [3, 4])
        made = Run(meetings)
        for k in (0, 2, 3):
            self.fails(Dependent, k, made.exchanged, k)
        self.assertEqual(list(made), meetings)

    def test_meetings_without_parts(self):
        made = Run([meeting(), meeting(0), meeting()])
        self.assertEqual(list(made.exchanged(0)), [meeting(0), meeting(), meeting()])
        self.assertEqual(list(made.exchanged(1)), [meeting(), meeting(), meeting(0)])

    def test_no_meeting_comes_before_dependent(self):
        made = Run(numbered([0], [0]))
        self.fails(Dependent, 0, made.exchanged, 0)
        for k in (1, 2, 3, LARGE):
            self.fails(NoMeeting, k + 1, made.exchanged, k)
        self.fails(NoMeeting, 1, Run(numbered([0])).exchanged, 0)
        for k in (0, 1, LARGE):
            self.fails(NoMeeting, k + 1, Run.empty().exchanged, k)


def look(plain, machines):
    """The menus, turns and numbers of channels of all machines."""
    return [(plain.menu_of(machine), plain.turn_of(machine), plain.created_by(machine)) for machine in range(machines)]


def behind(program, meetings):
    """What a plain machine tells behind meetings that it performs."""
    plain = Plain(program)
    for channel, parts in meetings:
        plain.meet(channel, tuple(part[::2] for part in parts))
    return look(plain, program.machines)


class Reordered(unittest.TestCase):
    def test_a_run_that_is_reordered_is_a_run_that_leads_to_the_same(self):
        numbers = random.Random(21)
        changes = 0
        for program in picked_programs(120, 22):
            made = Run(picked_run(numbers, program, 10))
            expected = behind(program, made)
            first = made
            for turn in range(12):
                at = numbers.randrange(10)
                try:
                    made = made.exchanged(at)
                    changes += 1
                except (NoMeeting, Dependent):
                    continue
                self.assertIsNone(fault(program, list(made)))
                self.assertEqual(behind(program, made), expected)
                self.assertTrue(made == first)
        self.assertGreater(changes, 50)

    def test_every_order_that_keeps_the_dependences(self):
        numbers = random.Random(23)
        for program in picked_programs(40, 24):
            made = picked_run(numbers, program, 5)
            expected = behind(program, made)
            for order in itertools.permutations(range(len(made))):
                kept = all(
                    order.index(i) < order.index(j) for j in range(len(made)) for i in range(j)
                    if Run(made).depends(j, i)
                )
                reordered = [made[k] for k in order]
                self.assertEqual(fault(program, reordered) is None, kept)
                if kept:
                    self.assertEqual(behind(program, reordered), expected)


if __name__ == "__main__":
    unittest.main()

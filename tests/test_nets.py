"""Nets: their processes, the operators, and equality (point 8)."""

import unittest

from fullseats.terms import Net, Process
from helpers import STOP, TermCase, net, numbered, offer

HUGE = (7, 8, 10 ** 9, 2 ** 63, 2 ** 64, 10 ** 100)


class Lists(TermCase):
    def test_zero_to_six_processes(self):
        for count in range(7):
            processes = numbered(count)
            made = Net(processes)
            self.assertEqual(len(made), count)
            self.assertEqual(list(made), processes)
            self.assertEqual([made[at] for at in range(count)], processes)
            self.assertEqual([process for process in made], processes)

    def test_more_processes(self):
        for count in (7, 8, 100):
            self.refuses("machines", Net, numbered(count))

    def test_processes_of_every_kind(self):
        processes = [STOP, offer(), Process.new("a", 1, STOP), Process.when(0, 1, STOP, STOP), Process.call("f", [])]
        self.assertEqual(list(Net(processes)), processes)

    def test_an_index_that_is_negative_does_not_exist(self):
        for at in (-1, -2, -3, 3, 10 ** 40, -10 ** 40, True, False):
            with self.subTest(at=at):
                with self.assertRaises(IndexError):
                    net(3)[at]

    def test_the_list_that_was_passed_is_copied(self):
        processes = numbered(3)
        made = Net(processes)
        processes[0] = STOP
        processes.append(STOP)
        self.assertEqual(list(made), numbered(3))

    def test_a_list_that_was_returned_is_not_the_net(self):
        made = net(3)
        returned = list(made)
        returned.clear()
        self.assertEqual(list(made), numbered(3))

    def test_the_list_that_was_passed_is_not_changed(self):
        processes = numbered(3)
        made = Net(processes)
        made |= STOP
        self.assertEqual(processes, numbered(3))


class Bars(TermCase):
    """The operator |, which puts what stands to its right behind what stands to its left."""

    def test_every_order(self):
        one, other = numbered(2, 50)
        self.assertEqual(list(one | other), [one, other])
        self.assertEqual(list(net(2) | one), numbered(2) + [one])
        self.assertEqual(list(one | net(2)), [one] + numbered(2))
        self.assertEqual(list(net(2) | net(3, 10)), numbered(2) + numbered(3, 10))
        self.assertEqual(list(one | other | one | net(2)), [one, other, one] + numbered(2))

    def test_the_results_are_nets(self):
        for made in (STOP | STOP, net(0) | STOP, STOP | net(0), net(0) | net(0)):
            self.assertTrue(type(made) is Net)

    def test_the_empty_net(self):
        self.assertEqual(list(net(0) | net(0)), [])
        self.assertEqual(list(net(0) | STOP), [STOP])
        self.assertEqual(list(STOP | net(0)), [STOP])
        self.assertEqual(list(net(6) | net(0)), numbered(6))
        self.assertEqual(list(net(0) | net(6)), numbered(6))

    def test_six_processes_but_not_more(self):
        for first in range(7):
            self.assertEqual(len(net(first) | net(6 - first)), 6)
            self.refuses("machines", lambda: net(first) | net(7 - first))
        self.assertEqual(len(net(5) | STOP), 6)
        self.assertEqual(len(STOP | net(5)), 6)
        self.refuses("machines", lambda: net(6) | STOP)
        self.refuses("machines", lambda: STOP | net(6))

    def test_the_result_is_new_and_nothing_is_changed(self):
        one, other = net(2), net(0)
        made = one | other
        made |= STOP
        again = other | one
        again |= STOP
        self.assertEqual((list(one), list(other)), (numbered(2), []))
        one |= STOP
        other |= STOP
        self.assertEqual(list(made), numbered(2) + [STOP])
        self.assertEqual(list(again), numbered(2) + [STOP])

    def test_only_processes_and_nets(self):
        for other in ([STOP], (STOP,), 5, "stop", None):
            for left in (STOP, net(2)):
                with self.assertRaises(TypeError):
                    left | other
                with self.assertRaises(TypeError):
                    other | left

    def test_a_refused_operator_changes_nothing(self):
        one, other = net(4), net(3)
        self.refuses("machines", lambda: one | other)
        self.assertEqual((list(one), list(other)), (numbered(4), numbered(3)))


class InPlace(TermCase):
    """The operator |=, which changes the net on its left side."""

    def extend(self, left, right):
        left |= right
        return left

    def test_by_a_process_or_a_net(self):
        made = net(2)
        made |= STOP
        self.assertEqual(list(made), numbered(2) + [STOP])
        made |= net(3, 10)
        self.assertEqual(list(made), numbered(2) + [STOP] + numbered(3, 10))
        made |= net(0)
        self.assertEqual(len(made), 6)

    def test_the_net_stays_the_same_object(self):
        made = net(2)
        alias = made
        for other in (STOP, net(1, 10), net(0)):
            made |= other
            self.assertTrue(alias is made)
        self.assertEqual(list(alias), numbered(2) + [STOP] + numbered(1, 10))

    def test_by_itself(self):
        for count in range(4):
            made = net(count)
            alias = made
            made |= made
            self.assertTrue(alias is made)
            self.assertEqual(list(made), numbered(count) * 2)
        made = net(4)
        self.refuses("machines", self.extend, made, made)
        self.assertEqual(list(made), numbered(4))

    def test_the_right_side_is_copied(self):
        made, other = net(1), net(1, 10)
        made |= other
        other |= STOP
        self.assertEqual(list(made), numbered(1) + numbered(1, 10))
        made |= STOP
        self.assertEqual(list(other), numbered(1, 10) + [STOP])

    def test_a_refusal_changes_nothing(self):
        for count, other in ((6, STOP), (6, net(1)), (4, net(3)), (1, net(6))):
            made = net(count)
            kept = list(other) if isinstance(other, Net) else None
            self.refuses("machines", self.extend, made, other)
            self.assertEqual(list(made), numbered(count))
            if kept is not None:
                self.assertEqual(list(other), kept)

    def test_only_by_processes_and_nets(self):
        made = net(2)
        for other in ([STOP], (STOP,), 5, "stop", None):
            with self.assertRaises(TypeError):
                self.extend(made, other)
        self.assertEqual(list(made), numbered(2))

    def test_a_net_that_was_made_of_it_stays(self):
        made = net(2)
        others = [made | STOP, STOP | made, 1 * made, 2 * made, Net(list(made))]
        made |= net(4, 10)
        self.assertEqual([len(other) for other in others], [3, 3, 2, 4, 2])

    def test_a_process_on_the_left_side_is_not_changed(self):
        process = offer()
        made = process
        made |= STOP
        self.assertEqual(list(made), [offer(), STOP])
        self.assertEqual(process, offer())


class Copies(TermCase):
    """The operator k * .."""

    def test_of_a_process(self):
        for count in range(7):
            made = count * offer()
            self.assertTrue(type(made) is Net)
            self.assertEqual(list(made), [offer()] * count)

    def test_of_a_net(self):
        for size, most in ((1, 6), (2, 3), (3, 2), (4, 1), (6, 1)):
            for count in range(most + 1):
                self.assertEqual(list(count * net(size)), numbered(size) * count)
            self.refuses("machines", lambda: (most + 1) * net(size))

    def test_of_very_large_numbers(self):
        for count in HUGE:
            with self.subTest(count=count):
                self.refuses("machines", lambda: count * STOP)
                self.refuses("machines", lambda: count * net(1))
                self.refuses("machines", lambda: count * net(6))
                self.assertEqual(list(count * net(0)), [])

    def test_the_result_is_new(self):
        one = net(2)
        for made in (1 * one, 2 * one, 0 * one):
            made |= STOP
            self.assertEqual(list(one), numbered(2))
        empty = net(0)
        made = 5 * empty
        made |= STOP
        self.assertEqual(list(empty), [])
        once = 1 * one
        one |= STOP
        self.assertEqual(list(once), numbered(2))

    def test_of_a_negative_number(self):
        # The document names no error for this, so there is none.
        for count in (-1, -10 ** 100):
            self.assertEqual(list(count * STOP), [])
            self.assertEqual(list(count * net(3)), [])

    def test_true_and_false_are_not_integers(self):
        for count in (True, False):
            for term in (STOP, net(1)):
                with self.assertRaises(TypeError):
                    count * term

    def test_a_sum_of_copies(self):
        made = 2 * STOP | 3 * offer() | 0 * offer() | STOP
        self.assertEqual(list(made), [STOP, STOP, offer(), offer(), offer(), STOP])


class Equality(TermCase):
    def test_the_same_processes_in_the_same_order(self):
        for count in range(7):
            self.assertTrue(net(count) == net(count))
            self.assertFalse(net(count) != net(count))
        self.assertEqual(STOP | offer(), Net([Process.stop(), offer()]))

    def test_another_process_order_or_number(self):
        made = net(3)
        for other in (
            net(2), net(4), net(0), Net(numbered(3)[::-1]), Net([STOP] + numbered(2, 1)), Net(numbered(2) + [STOP]),
            net(2) | net(1), net(1) | net(2, 2),
        ):
            self.assertFalse(made == other)
            self.assertTrue(made != other)
        self.assertFalse(Net([STOP]) == Net([STOP, STOP]))

    def test_a_net_equals_nothing_else(self):
        for made, other in ((net(1), numbered(1)[0]), (net(2), numbered(2)), (net(2), tuple(numbered(2))), (net(0), [])):
            self.assertFalse(made == other)
            self.assertTrue(made != other)

    def test_equality_follows_a_change(self):
        made = net(2)
        made |= STOP
        self.assertNotEqual(made, net(2))
        self.assertEqual(made, net(2) | STOP)


if __name__ == "__main__":
    unittest.main()

"""Processes: their kinds and parts, depth and size, sums and equality (points 5, 7 and 8)."""

import unittest

from fullseats.terms import Net, Process
from helpers import STOP, TermCase, choice, net, offer, sized, tower


class Kinds(TermCase):
    def test_stop(self):
        self.assertEqual((Process.stop().kind, Process.stop().parts), ("choice", ()))

    def test_offer(self):
        rest = Process.call("echo", ["x", "a"])
        made = Process.offer("a", 1, 3, -5, ["x", "y"], rest)
        self.assertEqual((made.kind, made.parts), ("choice", (("a", 1, 3, -5, ("x", "y"), rest),)))

    def test_new(self):
        made = Process.new("c", 4, offer())
        self.assertEqual((made.kind, made.parts), ("new", ("c", 4, offer())))

    def test_when(self):
        made = Process.when("x", -3, offer(), STOP)
        self.assertEqual((made.kind, made.parts), ("if", ("x", -3, offer(), STOP)))

    def test_call(self):
        made = Process.call("f", ["x", 0])
        self.assertEqual((made.kind, made.parts), ("call", ("f", ("x", 0))))

    def test_all_are_objects_of_the_class_itself(self):
        made = [STOP, offer(), Process.new("a", 1, STOP), Process.when(1, 2, STOP, STOP), Process.call("f", [])]
        for process in made + [STOP + STOP, offer() + offer()]:
            self.assertTrue(type(process) is Process)
            self.assertTrue(type(process.parts) is tuple)

    def test_names_and_operands_are_kept_as_tuples(self):
        for names in (["x", "y"], ("x", "y")):
            kept = Process.offer("a", 0, 3, 5, names, STOP).parts[0]
            self.assertTrue(type(kept) is tuple and type(kept[4]) is tuple)
        for operands in ([1, "y"], (1, "y")):
            self.assertTrue(type(Process.call("f", operands).parts[1]) is tuple)

    def test_lists_that_are_passed_are_copied(self):
        names = ["x", "y"]
        operands = [1, "y"]
        offered = Process.offer("a", 0, 3, 5, names, STOP)
        called = Process.call("f", operands)
        names[0] = "changed"
        names.append("more")
        operands.clear()
        self.assertEqual(offered.parts[0][4], ("x", "y"))
        self.assertEqual(called.parts, ("f", (1, "y")))

    def test_lists_that_are_passed_are_not_changed(self):
        names = ["y", "x"]
        operands = ["y", 1]
        Process.offer("a", 0, 3, 5, names, STOP)
        Process.call("f", operands)
        self.refuses("names", Process.offer, "a", 0, 4, 5, names, STOP)
        self.assertEqual((names, operands), (["y", "x"], ["y", 1]))


class Depth(TermCase):
    def test_twenty_levels_but_not_more(self):
        for build in (
            lambda rest: Process.new("a", 1, rest),
            lambda rest: Process.when(0, 0, rest, STOP),
            lambda rest: Process.when(0, 0, STOP, rest),
            lambda rest: Process.offer("a", 0, 1, 5, [], rest),
        ):
            for deepest in (STOP, Process.call("f", [])):
                made = deepest
                for level in range(19):
                    made = build(made)
                self.refuses("depth", build, made)

    def test_the_deepest_offer_counts_wherever_it_stands(self):
        deep = Process.offer("a", 0, 1, 5, [], tower(18))
        for made in (deep + offer(), offer() + deep, offer() + deep + offer()):
            twenty = Process.new("a", 1, made)
            self.refuses("depth", Process.new, "a", 1, twenty)

    def test_a_sum_is_as_deep_as_its_deepest_offer(self):
        twenty = Process.offer("a", 0, 1, 5, [], tower(19))
        self.assertEqual(len((twenty + twenty).parts), 2)
        self.refuses("depth", Process.new, "a", 1, twenty + offer())


class Size(TermCase):
    def test_four_hundred_but_not_more(self):
        for build in (
            lambda rest: Process.new("a", 1, rest),
            lambda rest: Process.offer("a", 0, 1, 5, [], rest),
        ):
            self.assertEqual(build(sized(399)), build(sized(399)))
            self.refuses("size", build, sized(400))

    def test_both_parts_of_an_if_count(self):
        self.assertEqual(Process.when(0, 0, sized(200), sized(199)).kind, "if")
        self.refuses("size", Process.when, 0, 0, sized(200), sized(200))
        self.refuses("size", Process.when, 0, 0, sized(1), sized(399))
        self.refuses("size", Process.when, 0, 0, sized(399), sized(1))

    def test_stop_and_a_call_have_size_one(self):
        for smallest in (STOP, Process.call("f", [1, 2, 3, 4]), STOP + STOP):
            self.assertEqual(Process.when(0, 0, sized(398), smallest).kind, "if")
            self.refuses("size", Process.when, 0, 0, sized(399), smallest)

    def test_every_offer_counts_one_and_its_rest(self):
        six = choice(6)
        # Six offers with stop behind each have size twelve.
        self.assertEqual(Process.when(0, 0, sized(387), six).kind, "if")
        self.refuses("size", Process.when, 0, 0, sized(388), six)

    def test_the_size_of_a_sum(self):
        big = offer(rest=sized(199))
        self.assertEqual(len((big + big).parts), 2)
        for one, other in ((big, offer(rest=sized(200))), (offer(rest=sized(200)), big)):
            with self.subTest():
                self.refuses("size", lambda: one + other)
        self.assertEqual(len((offer(rest=sized(399)) + STOP).parts), 1)
        self.assertEqual(len((STOP + offer(rest=sized(399))).parts), 1)


class Sums(TermCase):
    def test_the_offers_of_the_first_come_first(self):
        one = offer("a") + offer("b", 1, 2, "x", ["y"])
        other = offer("c") + offer("a")
        made = one + other
        self.assertEqual(made.kind, "choice")
        self.assertEqual(made.parts, one.parts + other.parts)
        self.assertEqual([each[0] for each in made.parts], ["a", "b", "c", "a"])
        self.assertNotEqual(made, other + one)

    def test_stop_adds_nothing(self):
        self.assertEqual(STOP + STOP, STOP)
        self.assertEqual(STOP + offer(), offer())
        self.assertEqual(offer() + STOP, offer())

    def test_six_offers_but_not_more(self):
        for first in range(7):
            self.assertEqual(len((choice(first) + choice(6 - first)).parts), 6)
        for first in range(1, 7):
            self.refuses("offers", lambda: choice(first) + choice(7 - first))
        self.refuses("offers", lambda: choice(6) + choice(6))

    def test_only_choices_have_a_sum(self):
        for other in (Process.new("a", 1, STOP), Process.when(0, 0, STOP, STOP), Process.call("f", [])):
            self.refuses("choice", lambda: STOP + other)
            self.refuses("choice", lambda: other + STOP)
            self.refuses("choice", lambda: other + other)
            self.refuses("choice", lambda: choice(6) + other)
        self.refuses("choice", lambda: STOP + Net([]))
        self.refuses("choice", lambda: STOP + 5)

    def test_the_order_of_the_checks(self):
        big = offer(rest=sized(399))
        self.refuses("choice", lambda: (big + STOP) + Process.call("f", []))
        self.refuses("offers", lambda: choice(6) + big)
        self.refuses("size", lambda: choice(5) + big)

    def test_a_sum_changes_nothing(self):
        one = offer("a")
        other = offer("b")
        kept = (one.parts, other.parts)
        self.refuses("offers", lambda: one + choice(6))
        made = one + other
        made = made + made
        self.assertEqual((one.parts, other.parts), kept)
        self.assertEqual(len(made.parts), 4)


class Equality(TermCase):
    """Equal processes are of the same kind and have equal parts."""

    def all_different(self, makers):
        """Each maker makes equal processes, and no two of them do."""
        for at, one in enumerate(makers):
            for place, other in enumerate(makers):
                with self.subTest(one=at, other=place):
                    self.assertEqual(one() == other(), at == place)
                    self.assertEqual(one() != other(), at != place)

    def test_choices(self):
        self.all_different([
            lambda: Process.stop(),
            lambda: Process.offer("a", 0, 3, 5, ["x", "y"], STOP),
            lambda: Process.offer("b", 0, 3, 5, ["x", "y"], STOP),
            lambda: Process.offer("a", 1, 3, 5, ["x", "y"], STOP),
            lambda: Process.offer("a", 0, 3, 6, ["x", "y"], STOP),
            lambda: Process.offer("a", 0, 3, -5, ["x", "y"], STOP),
            lambda: Process.offer("a", 0, 3, "x", ["x", "y"], STOP),
            lambda: Process.offer("a", 0, 3, 5, ["y", "x"], STOP),
            lambda: Process.offer("a", 0, 3, 5, ["x", "z"], STOP),
            lambda: Process.offer("a", 0, 3, 5, ["x", "y"], offer()),
            lambda: Process.offer("a", 0, 3, 5, ["x", "y"], Process.call("f", [])),
            lambda: Process.offer("a", 0, 2, 5, ["x"], STOP),
            lambda: Process.offer("a", 0, 1, 5, [], STOP),
            lambda: choice(2),
            lambda: choice(3),
            lambda: offer(operand=1) + offer(operand=0),
        ])

    def test_the_others(self):
        self.all_different([
            lambda: Process.new("a", 1, STOP),
            lambda: Process.new("b", 1, STOP),
            lambda: Process.new("a", 2, STOP),
            lambda: Process.new("a", 1, offer()),
            lambda: Process.when("a", 1, STOP, offer()),
            lambda: Process.when("b", 1, STOP, offer()),
            lambda: Process.when("a", 2, STOP, offer()),
            lambda: Process.when(1, "a", STOP, offer()),
            lambda: Process.when("a", 1, offer(), STOP),
            lambda: Process.when("a", 1, STOP, STOP),
            lambda: Process.when("a", 1, offer(), offer()),
            lambda: Process.call("a", []),
            lambda: Process.call("b", []),
            lambda: Process.call("a", [1]),
            lambda: Process.call("a", [2]),
            lambda: Process.call("a", ["x"]),
            lambda: Process.call("a", [1, 1]),
            lambda: Process.call("a", [1, 2]),
            lambda: Process.call("a", [2, 1]),
            lambda: Process.stop(),
        ])

    def test_lists_and_tuples_make_equal_processes(self):
        self.assertEqual(Process.call("f", [1, "x"]), Process.call("f", (1, "x")))
        self.assertEqual(offer(seats=3, names=["x", "y"]), offer(seats=3, names=("x", "y")))

    def test_a_difference_deep_inside(self):
        def chain(operand):
            made = offer(operand=operand)
            for level in range(9):
                made = Process.when("a", "b", STOP, Process.new("a", 1, made))
            return made
        self.assertEqual(chain(5), chain(5))
        self.assertNotEqual(chain(5), chain(6))

    def test_a_process_equals_nothing_else(self):
        for other in (net(0), Net([STOP]), 0, "stop", (), STOP.parts, ("choice", ()), None):
            self.assertFalse(STOP == other)
            self.assertTrue(STOP != other)
            self.assertFalse(other == STOP)


if __name__ == "__main__":
    unittest.main()

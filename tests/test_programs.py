"""Programs: their machines and channels, what they keep, and equality (points 2, 6 and 10)."""

import unittest

from fullseats.book import Book, Definition
from fullseats.errors import NoMachine, NoName
from fullseats.program import Program
from fullseats.terms import Net
from helpers import BAD_NAMES, GOOD_NAMES, STOP, TermCase, book_with, call, net, numbered, offer, program

LARGE = 10 ** 5000


def channels(count):
    """So many declared channels of machine 0."""
    return [(f"c{number}", 2, 0) for number in range(count)]


class Machines(TermCase):
    def test_one_machine_for_each_start_process(self):
        for count in range(1, 7):
            self.assertEqual(program(starts=[STOP] * count).machines, count)

    def test_no_machine(self):
        self.refuses("machines", Program, [], Book(), Net([]))

    def test_the_machines_come_before_everything_else(self):
        wrong = book_with({"f": ("", call("f"))})
        self.refuses("machines", Program, channels(9), wrong, Net([]))
        self.refuses("machines", Program, [("stop", 0, 9)], wrong, Net([]))


class Channels(TermCase):
    def test_none_to_eight_but_not_more(self):
        for count in range(9):
            self.assertEqual(program(channels(count)).declared(), channels(count))
        for count in (9, 10, 100):
            self.refuses("channels", program, channels(count))

    def test_their_number_comes_before_their_parts_and_before_the_terms(self):
        self.refuses("channels", program, channels(8) + [("stop", 2, 0)])
        self.refuses("channels", program, [("stop", 0, 9)] * 9)
        self.refuses("channels", program, channels(9), {"f": ("", call("f"))}, [call("g")])

    def test_names(self):
        for name in GOOD_NAMES:
            self.assertEqual(program([(name, 2, 0)]).channel_of(name), (0, 0, 2))
        for name in BAD_NAMES:
            with self.subTest(name=name):
                self.refuses("name", program, [(name, 2, 0)])
                self.refuses("name", program, channels(7) + [(name, 2, 0)])

    def test_a_name_that_comes_twice(self):
        self.refuses("name", program, [("a", 2, 0), ("a", 2, 0)])
        self.refuses("name", program, [("a", 2, 0), ("b", 2, 0), ("a", 3, 1)], None, [STOP] * 2)
        self.refuses("name", program, channels(7) + [("c0", 2, 0)])

    def test_seats(self):
        for seats in (1, 2, 3, 4):
            self.assertEqual(program([("a", seats, 0)]).channel_of("a"), (0, 0, seats))
        for seats in (0, 5, -1, 10 ** 40, LARGE, -LARGE, True, False):
            self.refuses("seats", program, [("a", seats, 0)])
            self.refuses("seats", program, [("b", 1, 0), ("a", seats, 0)])

    def test_machines(self):
        for count in range(1, 7):
            starts = [STOP] * count
            for machine in range(count):
                self.assertEqual(program([("a", 2, machine)], None, starts).channel_of("a"), (machine, 0, 2))
            for machine in (-1, -count, count, count + 1, 10 ** 40, LARGE, -LARGE):
                self.fails(NoMachine, machine, program, [("a", 2, machine)], None, starts)
        for machine in (True, False):
            self.fails(NoMachine, machine, program, [("a", 2, machine)], None, [STOP] * 2)

    def test_the_order_of_the_checks(self):
        self.refuses("name", program, [("stop", 0, 9)])
        self.refuses("name", program, [("a", 2, 0), ("a", 0, 9)])
        self.refuses("seats", program, [("a", 0, 9)])
        self.fails(NoMachine, 9, program, [("a", 2, 9), ("stop", 0, 8)])
        self.fails(NoMachine, 8, program, [("a", 2, 8), ("a", 2, 9)])
        self.refuses("seats", program, [("a", 5, 0), ("a", 2, 0)])
        self.refuses("name", program, [("a", 2, 0), ("stop", 2, 0), ("b", 2, 9)])

    def test_the_channels_come_before_the_terms(self):
        self.fails(NoMachine, 1, program, [("a", 2, 1)], {"f": ("", call("f"))}, [call("g")])

    def test_the_first_channels_of_each_machine(self):
        made = program(
            [("e", 2, 1), ("d", 1, 0), ("c", 3, 1), ("b", 4, 2), ("a", 2, 0), ("f", 1, 1)], None, [STOP] * 4
        )
        found = [(name, made.channel_of(name)) for name in "abcdef"]
        self.assertEqual(found, [
            ("a", (0, 1, 2)), ("b", (2, 0, 4)), ("c", (1, 1, 3)), ("d", (0, 0, 1)), ("e", (1, 0, 2)), ("f", (1, 2, 1)),
        ])
        self.assertTrue(type(made.channel_of("a")) is tuple)

    def test_eight_channels_of_one_machine(self):
        made = program([(name, 4, 1) for name in "hgfedcba"], None, [STOP] * 2)
        self.assertEqual([made.channel_of(name) for name in "hgfedcba"], [(1, number, 4) for number in range(8)])

    def test_other_names(self):
        made = program([("a", 2, 0)], {"f": ("x", STOP)})
        for name in ("b", "f", "x", "", "aa", "A", "stop", "a" * 1000):
            self.fails(NoName, name, made.channel_of, name)
        self.fails(NoName, "a", program().channel_of, "a")


class Copies(TermCase):
    """What was passed and what was returned can be changed without any effect."""

    def setUp(self):
        self.given = [("a", 2, 0), ("b", 3, 1)]
        self.book = book_with({"g": ("x", STOP), "f": ("", offer())})
        self.net = net(2) | offer()
        self.book["f"] = Definition(["x"], STOP)
        self.made = Program(self.given, self.book, self.net)

    def check(self):
        self.assertEqual(self.made.machines, 3)
        self.assertEqual(self.made.declared(), [("a", 2, 0), ("b", 3, 1)])
        self.assertEqual(list(self.made.definitions()), ["g", "f"])
        self.assertEqual(self.made.definitions(), book_with({"f": ("x", STOP), "g": ("x", STOP)}))
        self.assertEqual(list(self.made.processes()), numbered(2) + [offer()])
        self.assertEqual(self.made.channel_of("b"), (1, 0, 3))
        self.assertTrue(type(self.made.declared()) is list)
        self.assertTrue(type(self.made.definitions()) is Book)
        self.assertTrue(type(self.made.processes()) is Net)

    def test_what_is_kept(self):
        self.check()

    def test_what_was_passed(self):
        self.given[0] = ("z", 9, 9)
        self.given.append(("c", 1, 0))
        self.book["h"] = Definition([], STOP)
        self.book["g"] = Definition([], offer())
        self.net |= STOP
        self.check()

    def test_what_was_returned(self):
        self.made.declared().clear()
        self.made.definitions()["f"] = Definition([], offer())
        book = self.made.definitions()
        book |= book_with({"h": ("", STOP)})
        made = self.made.processes()
        made |= STOP
        self.check()

    def test_what_was_returned_is_new_each_time(self):
        for method in (self.made.declared, self.made.definitions, self.made.processes):
            self.assertFalse(method() is method())
        self.assertFalse(self.made.definitions() is self.book)
        self.assertFalse(self.made.processes() is self.net)

    def test_what_was_passed_is_not_changed(self):
        self.assertEqual(self.given, [("a", 2, 0), ("b", 3, 1)])
        self.assertEqual(list(self.book), ["g", "f"])
        self.assertEqual(list(self.net), numbered(2) + [offer()])

    def test_a_refusal_changes_nothing(self):
        wrong = call("nowhere")
        book = book_with({"g": ("", STOP), "f": ("", wrong)})
        given = [("b", 2, 0), ("a", 2, 0)]
        made = Net([STOP, wrong])
        self.fails(NoName, "nowhere", Program, given, book, made)
        self.assertEqual(given, [("b", 2, 0), ("a", 2, 0)])
        self.assertEqual(list(book), ["g", "f"])
        self.assertEqual(list(made), [STOP, wrong])

    def test_the_order_of_the_book(self):
        for names in ("zab", "abz", "bza"):
            made = program([], {name: ("", STOP) for name in names})
            self.assertEqual(list(made.definitions()), list(names))

    def test_twelve_definitions(self):
        made = program([], {name: ("", STOP) for name in "lkjihgfedcba"})
        self.assertEqual(list(made.definitions()), list("lkjihgfedcba"))


class Equality(TermCase):
    def test_equal_parts(self):
        makers = [
            lambda: program(),
            lambda: program([("a", 2, 0), ("b", 2, 0)]),
            lambda: program([("b", 2, 0), ("a", 2, 0)]),
            lambda: program([("a", 2, 0), ("b", 3, 0)]),
            lambda: program([("a", 2, 0)]),
            lambda: program([("a", 2, 0)], None, [STOP, STOP]),
            lambda: program([("a", 2, 1)], None, [STOP, STOP]),
            lambda: program([], {"f": ("", STOP)}),
            lambda: program([], {"f": ("x", STOP)}),
            lambda: program([], {"g": ("", STOP)}),
            lambda: program([], {"f": ("", STOP), "g": ("", STOP)}),
            lambda: program([], None, [STOP, STOP]),
            lambda: program([("a", 1, 0)], None, [offer(), STOP]),
            lambda: program([("a", 1, 0)], None, [STOP, offer()]),
            lambda: ([], Book(), Net([STOP])),
            lambda: Net([STOP]),
            lambda: None,
        ]
        for at, one in enumerate(makers):
            for place, other in enumerate(makers):
                with self.subTest(one=at, other=place):
                    self.assertEqual(one() == other(), at == place)
                    self.assertEqual(one() != other(), at != place)

    def test_the_order_of_the_book_does_not_count(self):
        one = program([], {"f": ("", STOP), "g": ("x", STOP)})
        other = program([], {"g": ("x", STOP), "f": ("", STOP)})
        self.assertTrue(one == other)
        self.assertFalse(one != other)

    def test_the_parts_of_a_program_make_an_equal_one(self):
        made = program([("a", 1, 0), ("b", 2, 1)], {"f": ("x", offer(channel="b"))}, [offer(), call("f", "a")])
        again = Program(made.declared(), made.definitions(), made.processes())
        self.assertEqual(made, again)


if __name__ == "__main__":
    unittest.main()

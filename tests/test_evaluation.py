"""Evaluating a process until it reaches a choice, and the menu that this is (points 4 to 6, 14 and 15)."""

import unittest

from fullseats.errors import NoMachine
from fullseats.plain import Plain
from helpers import LARGE, SAMPLES, THIRTY_DIGITS, TermCase, read

# Channels that most tests declare: their numbers are those among the channels of their machine.
CHANNELS = ["channel a 1 at 0", "channel b 2 at 1", "channel c 2 at 0", "channel d 1 at 1"]
A, B, C, D = (0, 0, 1), (1, 0, 2), (0, 1, 2), (1, 1, 1)


def show(*operands):
    """A choice that shows the values of the operands."""
    offers = [f"a 0 / 1 put {operand} get ( ) then stop" for operand in operands]
    return "[ " + " + ".join(offers) + " ]"


def menu(process, *definitions):
    """The menu of machine 0, which starts with this process."""
    return Plain(read(*CHANNELS, *definitions, "start " + process, "start stop")).menu_of(0)


def values(process, *definitions):
    """The values in the menu of machine 0, which starts with this process."""
    return [entry[3] for entry in menu(process, *definitions)]


class Operands(unittest.TestCase):
    def test_an_integer_is_its_own_value(self):
        for number in (0, 1, -1, 400, THIRTY_DIGITS, -THIRTY_DIGITS):
            self.assertEqual(values(show(number)), [number])

    def test_a_declared_channel(self):
        self.assertEqual(values(show("a", "b", "c", "d")), [A, B, C, D])

    def test_the_numbers_of_declared_channels_count_for_each_machine(self):
        declared = [("p", 1, 1), ("q", 2, 0), ("r", 3, 1), ("s", 4, 2), ("t", 1, 1), ("u", 2, 0)]
        lines = [f"channel {name} {seats} at {machine}" for name, seats, machine in declared]
        program = read(*lines, *["start stop"] * 3)
        plain = Plain(program)
        self.assertEqual([plain.created_by(machine) for machine in range(3)], [2, 3, 1])
        expected = [(0, 0, 2), (0, 1, 2), (1, 0, 1), (1, 1, 3), (1, 2, 1), (2, 0, 4)]
        self.assertEqual(plain.all_channels(), expected)
        self.assertEqual(sorted(program.channel_of(name) for name, seats, machine in declared), expected)


class New(unittest.TestCase):
    def test_the_numbers_go_on_behind_the_declared_channels(self):
        process = "new x 3 new y 1 " + show("x", "y")
        self.assertEqual(values(process), [(0, 2, 3), (0, 3, 1)])
        plain = Plain(read(*CHANNELS, "start " + process, "start new x 4 stop"))
        self.assertEqual((plain.created_by(0), plain.created_by(1)), (4, 3))
        self.assertEqual(plain.all_channels(), [A, C, (0, 2, 3), (0, 3, 1), B, D, (1, 2, 4)])

    def test_without_declared_channels_they_begin_with_0(self):
        plain = Plain(read("start stop", "start new x 2 [ x 1 / 2 put x get ( y ) then stop ]"))
        self.assertEqual(plain.menu_of(1), [((1, 0, 2), 1, 2, (1, 0, 2))])
        self.assertEqual((plain.created_by(0), plain.created_by(1)), (0, 1))

    def test_it_hides_what_its_name_was_bound_to(self):
        self.assertEqual(values("new b 4 " + show("b", "c")), [(0, 2, 4), C])
        self.assertEqual(values("new x 1 new x 2 " + show("x")), [(0, 3, 2)])
        self.assertEqual(values("f ( 5 b )", "define f ( x y ) new x 2 " + show("x", "y")), [(0, 2, 2), B])

    def test_only_what_is_evaluated_creates_channels(self):
        process = "if 0 = 1 then new x 1 stop else new y 2 [ a 0 / 1 put y get ( ) then new z 3 " + show("z") + " ]"
        plain = Plain(read(*CHANNELS, "start " + process, "start stop"))
        self.assertEqual(plain.created_by(0), 3)
        self.assertEqual(plain.all_channels(), [A, C, (0, 2, 2), B, D])
        plain.meet(A, ((0, 0),))
        self.assertEqual(plain.created_by(0), 4)
        self.assertEqual(plain.menu_of(0), [(A, 0, 1, (0, 3, 3))])


class If(unittest.TestCase):
    def branch(self, left, right, before=""):
        """The value 1 or 0 of the branch that is taken."""
        return values(f"{before}if {left} = {right} then {show(1)} else {show(0)}")

    def test_integers(self):
        for number in (0, 5, -5, THIRTY_DIGITS):
            self.assertEqual(self.branch(number, number), [1])
            self.assertEqual(self.branch(number, number - 1), [0])
            self.assertEqual(self.branch(7, number), [0])

    def test_channels(self):
        self.assertEqual(self.branch("a", "a"), [1])
        self.assertEqual(self.branch("a", "b"), [0])
        self.assertEqual(self.branch("a", "c"), [0])
        self.assertEqual(self.branch("a", "d"), [0])
        self.assertEqual(self.branch("x", "x", "new x 2 "), [1])
        # Two channels that a machine creates are different, though they may be called alike.
        self.assertEqual(self.branch("x", "y", "new x 2 new y 2 "), [0])

    def test_an_integer_and_a_channel(self):
        for number in (0, 1, 2, -1):
            self.assertEqual(self.branch("a", number), [0])
            self.assertEqual(self.branch(number, "b"), [0])

    def test_parameters(self):
        definition = "define f ( x y ) if x = y then " + show(1) + " else " + show(0)
        for operands, expected in (("3 3", 1), ("3 4", 0), ("a a", 1), ("a b", 0), ("a 0", 0), ("0 a", 0)):
            self.assertEqual(values(f"f ( {operands} )", definition), [expected])

    def test_one_in_the_other(self):
        inner = "if 1 = 2 then " + show(3) + " else " + show(4)
        self.assertEqual(values(f"if 0 = 0 then {inner} else {show(5)}"), [4])
        self.assertEqual(values(f"if 0 = 1 then {show(5)} else {inner}"), [4])

    def test_only_one_branch_can_reach_stop(self):
        self.assertEqual(menu("if a = a then stop else " + show(1)), [])


class Calls(unittest.TestCase):
    def test_integers_and_channels_are_passed(self):
        self.assertEqual(values("f ( 5 b -3 )", "define f ( x y z ) " + show("z", "y", "x", "y")), [-3, B, 5, B])
        self.assertEqual(values("new n 2 f ( n )", "define f ( x ) " + show("x")), [(0, 2, 2)])
        self.assertEqual(values("f ( )", "define f ( ) " + show(8)), [8])
        self.assertEqual(values("f ( 1 2 3 4 )", "define f ( w x y z ) " + show("w", "x", "y", "z")), [1, 2, 3, 4])

    def test_calls_of_calls(self):
        definitions = [
            "define f ( x y ) g ( y x 1 )", "define g ( x y z ) if z = 1 then h ( x y z ) else stop",
            "define h ( p q r ) " + show("p", "q", "r"),
        ]
        self.assertEqual(values("f ( 5 b )", *definitions), [B, 5, 1])

    def test_a_chain_of_all_definitions(self):
        definitions = [f"define f{k} ( x ) new y 1 f{k + 1} ( x )" for k in range(11)]
        definitions.append("define f11 ( x ) new y 1 " + show("x"))
        plain = Plain(read(*CHANNELS, *definitions, "start f0 ( c )", "start stop"))
        self.assertEqual(plain.menu_of(0), [(A, 0, 1, C)])
        self.assertEqual(plain.created_by(0), 14)

    def test_a_parameter_hides_a_channel_of_the_program(self):
        self.assertEqual(values("f ( 7 )", "define f ( b ) " + show("b", "c")), [7, C])
        self.assertEqual(values("f ( d 6 )", "define f ( b c ) " + show("b", "c")), [D, 6])

    def test_the_operands_are_evaluated_where_the_call_stands(self):
        definitions = ["define f ( x y ) g ( y x )", "define g ( x y ) " + show("x", "y")]
        self.assertEqual(values("f ( 1 2 )", *definitions), [2, 1])
        self.assertEqual(values("new b 3 f ( b )", "define f ( x ) " + show("x", "b")), [(0, 2, 3), B])

    def test_in_the_body_what_the_caller_has_hidden_is_bound_again(self):
        self.assertEqual(values("new b 3 f ( )", "define f ( ) " + show("b")), [B])
        self.assertEqual(values("f ( 5 )", "define f ( c ) g ( c )", "define g ( x ) " + show("x", "c")), [5, C])
        definitions = ["define f ( x ) new c 4 g ( c )", "define g ( c ) " + show("c")]
        self.assertEqual(values("f ( 5 )", *definitions), [(0, 2, 4)])

    def test_definitions_named_like_channels_and_parameters(self):
        self.assertEqual(values("b ( b )", "define b ( c ) " + show("c", "b")), [B, B])
        self.assertEqual(values("b ( 3 )", "define b ( b ) " + show("b", "c")), [3, C])
        definitions = ["define f ( g ) g ( g )", "define g ( f ) " + show("f")]
        self.assertEqual(values("f ( 4 )", *definitions), [4])


class Menus(unittest.TestCase):
    def test_stop_has_an_empty_menu(self):
        self.assertEqual(menu("stop"), [])

    def test_one_entry_for_each_offer_in_order(self):
        process = (
            "[ b 1 / 2 put -4 get ( x ) then stop + a 0 / 1 put c get ( ) then stop + c 0 / 2 put 5 get ( y ) then stop"
            " + b 0 / 2 put b get ( x ) then stop + a 0 / 1 put c get ( ) then stop + d 0 / 1 put 0 get ( ) then stop ]"
        )
        expected = [(B, 1, 2, -4), (A, 0, 1, C), (C, 0, 2, 5), (B, 0, 2, B), (A, 0, 1, C), (D, 0, 1, 0)]
        self.assertEqual(menu(process), expected)

    def test_offers_that_do_not_stand_keep_their_places(self):
        process = (
            "[ x 0 / 1 put 1 get ( ) then stop + a 0 / 2 put 2 get ( y ) then stop + a 0 / 1 put 3 get ( ) then stop"
            " + b 0 / 1 put 4 get ( ) then stop + b 3 / 4 put 5 get ( u v w ) then stop ]"
        )
        expected = [(-6, 0, 1, 1), (A, 0, 2, 2), (A, 0, 1, 3), (B, 0, 1, 4), (B, 3, 4, 5)]
        definition = "define f ( x ) " + process
        self.assertEqual(menu("f ( -6 )", definition), expected)
        plain = Plain(read(*CHANNELS, definition, "start f ( -6 )", "start stop"))
        self.assertEqual([plain.first_on(channel) for channel in (A, B, C, D)], [((0, 2),), None, None, None])

    def test_the_menu_is_a_new_list_of_tuples(self):
        plain = Plain(read(*CHANNELS, "start " + show(1, 2), "start stop"))
        told = plain.menu_of(0)
        self.assertIs(type(told), list)
        self.assertTrue(all(type(entry) is tuple for entry in told))
        told.clear()
        plain.menu_of(0).append("something")
        self.assertEqual(plain.menu_of(0), [(A, 0, 1, 1), (A, 0, 1, 2)])


class Machines(TermCase):
    def test_every_machine_and_no_other(self):
        for name, program in SAMPLES.items():
            plain = Plain(program)
            for machine in range(program.machines):
                self.assertEqual(plain.turn_of(machine), 0)
                self.assertIsInstance(plain.menu_of(machine), list)
                self.assertIsInstance(plain.created_by(machine), int)
            for machine in (-1, -program.machines, program.machines, program.machines + 1, LARGE, -LARGE):
                for asked in (plain.turn_of, plain.menu_of, plain.created_by):
                    self.fails(NoMachine, machine, asked, machine)

    def test_each_machine_has_its_own_process(self):
        plain = Plain(read(*CHANNELS, "start " + show(1), "start new x 2 " + show(2, "x"), "start stop"))
        self.assertEqual(plain.menu_of(0), [(A, 0, 1, 1)])
        self.assertEqual(plain.menu_of(1), [(A, 0, 1, 2), (A, 0, 1, (1, 2, 2))])
        self.assertEqual(plain.menu_of(2), [])
        self.assertEqual([plain.created_by(machine) for machine in range(3)], [2, 3, 0])


if __name__ == "__main__":
    unittest.main()

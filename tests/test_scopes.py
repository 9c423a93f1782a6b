"""The names and the calls in a program, and endless definitions (points 6 and 10)."""

import itertools
import unittest

from fullseats.errors import Endless, NoName, WrongCount
from fullseats.terms import Process
from helpers import STOP, TermCase, call, program

A = [("a", 2, 0)]
TAKER = {"f": ("x", STOP)}


def passing(*operands):
    """A process that only uses the operands."""
    return Process.call("f", operands)


def give(operand, rest=STOP, channel="a", names=("v",)):
    """An offer that gives an operand and binds a name."""
    return Process.offer(channel, 0, 2, operand, names, rest)


class Unbound(TermCase):
    def start(self, process, definitions=None):
        """Creates a program with the channel a and this start process."""
        return program(A, {**TAKER, **(definitions or {})}, [process])

    def body(self, process, params=""):
        """Creates a program with the channel a and a definition with this body."""
        return program(A, {**TAKER, "g": (params, process)}, [STOP])

    def everywhere(self, name, process):
        """The name is not bound, wherever the process stands."""
        for build in (
            lambda: self.start(process),
            lambda: self.body(process),
            lambda: self.body(process, "p q"),
            lambda: self.start(Process.new("n", 1, process)),
            lambda: self.start(Process.when(0, 0, process, STOP)),
            lambda: self.start(Process.when(0, 0, STOP, process)),
            lambda: self.start(give(0, process, names=("k",))),
            lambda: self.start(give(0) + give(0, process, names=("k",))),
            lambda: program(A, TAKER, [STOP, STOP, process]),
        ):
            self.fails(NoName, name, build)

    def test_at_each_place(self):
        self.everywhere("u", give(0, channel="u"))
        self.everywhere("u", give("u"))
        self.everywhere("u", give(0, passing("u")))
        self.everywhere("u", Process.when("u", 0, STOP, STOP))
        self.everywhere("u", Process.when(0, "u", STOP, STOP))
        self.everywhere("u", Process.when(0, 0, passing("u"), STOP))
        self.everywhere("u", Process.when(0, 0, STOP, passing("u")))
        self.everywhere("u", Process.new("n", 1, passing("u")))
        self.everywhere("u", passing("u"))

    def test_in_each_offer(self):
        for at in range(6):
            for wrong in (give(0, channel="u"), give("u"), give(0, passing("u"))):
                made = STOP
                for place in range(6):
                    made = made + (wrong if place == at else give(place))
                self.everywhere("u", made)

    def test_each_operand_of_a_call(self):
        for at in range(4):
            operands = ["u" if place == at else place for place in range(4)]
            made = program([], {"g": ("w x y z", STOP)}, [call("g", 1, 2, 3, 4)])
            self.assertEqual(made.machines, 1)
            self.fails(NoName, "u", program, [], {"g": ("w x y z", STOP)}, [call("g", *operands)])

    def test_integers_need_no_binding(self):
        for process in (give(7), passing(7), Process.when(7, -7, STOP, STOP)):
            self.start(process)
            self.body(process)

    def test_a_name_is_not_bound_outside_of_what_binds_it(self):
        self.everywhere("v", give("v"))
        self.everywhere("v", give(0, channel="v"))
        self.everywhere("v", give(0) + give("v", names=("w",)))
        self.everywhere("v", give(0) + give(0, passing("v"), names=("w",)))
        self.everywhere("m", Process.when(0, 0, Process.new("m", 1, STOP), passing("m")))
        self.everywhere("m", Process.when("m", 0, Process.new("m", 1, STOP), STOP))
        self.everywhere("m", give(0, Process.new("m", 1, STOP)) + give("m"))

    def test_the_parameters_of_one_definition_are_not_bound_elsewhere(self):
        self.fails(NoName, "x", self.start, passing("x"))
        self.fails(NoName, "x", self.body, passing("x"))
        self.fails(NoName, "x", self.body, passing("x"), "y")

    def test_a_start_process_binds_nothing_in_another_one(self):
        self.fails(NoName, "m", program, A, TAKER, [Process.new("m", 1, STOP), passing("m")])

    def test_the_name_of_a_definition_is_not_a_value(self):
        self.fails(NoName, "f", self.start, passing("f"))
        self.fails(NoName, "g", self.body, Process.when("g", 0, STOP, STOP))


class Bound(TermCase):
    """Names that are bound in each way."""

    def users(self, name):
        """Processes that use the name at each place."""
        return [
            give(name), give(0, channel=name), give(0, passing(name)), passing(name),
            Process.new("n", 1, passing(name)), Process.when(name, 0, STOP, STOP), Process.when(0, name, STOP, STOP),
            Process.when(0, 0, passing(name), STOP), Process.when(0, 0, STOP, passing(name)),
            give(0) + give(name) + give(1, passing(name)),
        ]

    def test_by_a_declared_channel(self):
        for process in self.users("a"):
            program(A, TAKER, [STOP, process])
            program(A, {**TAKER, "g": ("p", process)}, [STOP])
        for process in self.users("h"):
            given = [(name, 1, 0) for name in "abcdefgh"]
            program(given, TAKER, [process])

    def test_by_a_parameter(self):
        for name in "pqrs":
            for process in self.users(name):
                program(A, {**TAKER, "g": ("p q r s", process)}, [STOP])

    def test_by_a_new_process(self):
        for process in self.users("m"):
            for outer in (process, Process.new("k", 1, process), give(0, process)):
                program(A, TAKER, [Process.new("m", 1, outer)])
                program(A, {**TAKER, "g": ("p", Process.new("m", 1, outer))}, [STOP])

    def test_by_the_names_of_an_offer(self):
        for name in "xyz":
            for process in self.users(name):
                for outer in (process, Process.new("k", 1, process), give(0, process)):
                    made = Process.offer("a", 0, 4, 0, ["x", "y", "z"], outer)
                    program(A, TAKER, [made])
                    program(A, TAKER, [give(0) + made])

    def test_a_name_may_be_bound_more_than_once(self):
        inner = Process.new("a", 1, give("a", passing("a"), names=("a",)))
        program(A, {**TAKER, "g": ("a", inner)}, [Process.new("a", 1, inner)])

    def test_a_definition_may_be_named_like_a_channel_or_a_parameter(self):
        program(A, {"a": ("a", give("a"))}, [call("a", "a")])
        program(A, {"f": ("f", Process.when("f", "a", STOP, give("f", call("f", "f"))))}, [call("f", 5)])


class Calls(TermCase):
    def test_the_number_of_operands(self):
        for params in range(5):
            definitions = {"g": (" ".join("wxyz"[:params]), STOP)}
            for count in range(5):
                calls = call("g", *range(count))
                for build in (
                    lambda: program(A, definitions, [calls]),
                    lambda: program(A, {**definitions, "h": ("", calls)}, [STOP]),
                    lambda: program(A, definitions, [Process.when(0, 0, STOP, give(0, calls))]),
                ):
                    if count == params:
                        build()
                    else:
                        self.fails(WrongCount, "g", build)

    def test_what_is_not_defined(self):
        for process in (call("g"), call("g", 1, 2, 3, 4), Process.new("g", 1, call("g")), give(0, call("g"))):
            self.fails(NoName, "g", program, A, TAKER, [process])
            self.fails(NoName, "g", program, A, {**TAKER, "h": ("g", process)}, [STOP])
        self.fails(NoName, "a", program, A, TAKER, [call("a")])
        self.fails(NoName, "f", program, A, {}, [call("f")])

    def test_existence_then_the_number_then_the_operands(self):
        self.fails(NoName, "g", program, A, TAKER, [call("g", "u", "u")])
        self.fails(WrongCount, "f", program, A, TAKER, [call("f", "u", "u")])
        self.fails(NoName, "u", program, A, TAKER, [call("f", "u")])
        self.fails(NoName, "u", program, A, {"g": ("x y", STOP)}, [call("g", "u", "w")])

    def test_definitions_may_call_each_other_in_any_order_of_the_book(self):
        program([], {"b": ("", call("a")), "a": ("", STOP), "c": ("", call("b"))}, [call("c")])


class Order(TermCase):
    """The first of several faults."""

    def test_definitions_in_ascending_order_of_their_names(self):
        for names in itertools.permutations(["b", "a10", "a2"]):
            definitions = {name: ("", passing("un" + name)) for name in names}
            self.fails(NoName, "una10", program, A, {**TAKER, **definitions}, [call("g")])
        definitions = {"c": ("", call("g")), "b": ("", passing(1, 2)), "d": ("", passing("u"))}
        self.fails(WrongCount, "f", program, A, {**definitions, **TAKER}, [STOP])

    def test_start_processes_behind_the_definitions_in_their_order(self):
        wrong = [passing("u"), passing("v"), call("g")]
        self.fails(NoName, "w", program, A, {**TAKER, "z": ("", passing("w"))}, wrong)
        self.fails(NoName, "u", program, A, TAKER, wrong)
        self.fails(NoName, "v", program, A, TAKER, wrong[1:])
        self.fails(NoName, "g", program, A, TAKER, [STOP] + wrong[::-1])

    def test_the_parts_of_an_offer(self):
        self.fails(NoName, "u1", program, A, TAKER, [give("u2", passing("u3"), "u1")])
        self.fails(NoName, "u2", program, A, TAKER, [give("u2", passing("u3"))])
        self.fails(NoName, "u3", program, A, TAKER, [give(0, passing("u3"))])

    def test_offer_by_offer(self):
        first, second = give(0, passing("u1")), give("u3", STOP, "u2")
        self.fails(NoName, "u1", program, A, TAKER, [first + second])
        self.fails(NoName, "u2", program, A, TAKER, [second + first])
        self.fails(NoName, "u2", program, A, TAKER, [give(0) + second + first])

    def test_the_parts_of_an_if_process(self):
        yes, no = passing("u3"), passing("u4")
        self.fails(NoName, "u1", program, A, TAKER, [Process.when("u1", "u2", yes, no)])
        self.fails(NoName, "u2", program, A, TAKER, [Process.when(0, "u2", yes, no)])
        self.fails(NoName, "u3", program, A, TAKER, [Process.when(0, 0, yes, no)])
        self.fails(NoName, "u4", program, A, TAKER, [Process.when(0, 0, STOP, no)])


class EndlessDefinitions(TermCase):
    def endless(self, name, definitions, starts=(STOP,)):
        self.fails(Endless, name, program, A, definitions, starts)

    def wrapped(self, inner):
        """Processes that call directly what the inner process calls."""
        return [
            inner, Process.new("n", 1, inner), Process.when(0, 0, inner, STOP), Process.when(0, 0, STOP, inner),
            Process.when(0, 1, give(0), Process.new("n", 1, Process.when(0, 0, inner, give(0)))),
        ]

    def test_a_definition_that_calls_itself(self):
        for body in self.wrapped(call("g")):
            self.endless("g", {"g": ("", body)})
            self.endless("g", {"a": ("", STOP), "g": ("", body), "z": ("", STOP)})
        self.endless("g", {"g": ("x", call("g", "x"))}, [call("g", 1)])

    def test_rings(self):
        for body in self.wrapped(call("b")):
            self.endless("b", {"c": ("", call("b")), "b": ("", call("c"))})
            self.endless("a", {"a": ("", body), "b": ("", call("a"))})
            self.endless("b", {"b": ("", call("d")), "c": ("", body), "d": ("", call("c"))})

    def test_the_longest_ring(self):
        names = "lkjihgfedcba"
        definitions = {name: ("", call(names[at - 1])) for at, name in enumerate(names)}
        self.endless("a", definitions)
        program(A, {**definitions, "e": ("", STOP)})

    def test_calls_inside_the_rest_of_an_offer_are_allowed(self):
        for body in self.wrapped(call("g")):
            program(A, {"g": ("", give(0, body))})
            program(A, {"g": ("", give(0) + give(1, body))})
            program(A, {"g": ("", Process.new("m", 1, Process.when(0, 0, give(0, body), STOP)))})
        program(A, {"g": ("", call("h")), "h": ("", give(0, call("g")))}, [call("g")])
        self.endless("g", {"g": ("", Process.when(0, 0, give(0, call("g")), call("g")))})

    def test_a_chain_that_leads_into_a_ring_is_not_in_it(self):
        definitions = {"a": ("", call("b")), "b": ("", call("d")), "c": ("", call("d")), "d": ("", call("c"))}
        self.endless("c", definitions)
        self.endless("d", {"a": ("", call("d")), "d": ("", call("d"))}, [call("a")])

    def test_a_chain_that_leads_out_of_a_ring_is_not_in_it(self):
        both = Process.when(0, 0, call("a"), call("z"))
        self.endless("y", {"a": ("", STOP), "y": ("", both), "z": ("", call("y"))})

    def test_the_least_name_of_several_rings(self):
        definitions = {"z": ("", call("b10")), "b10": ("", call("z")), "b2": ("", call("b2"))}
        self.endless("b10", definitions)

    def test_several_ways_to_a_definition_are_no_ring(self):
        both = Process.when(0, 0, call("b"), Process.when(0, 0, call("c"), call("d")))
        program(A, {"a": ("", both), "b": ("", call("d")), "c": ("", call("d")), "d": ("", STOP)}, [call("a")])

    def test_a_ring_that_nobody_calls(self):
        self.endless("g", {"g": ("", call("g"))}, [STOP, give(0)])

    def test_all_other_faults_come_first(self):
        ring = {"b": ("", call("b"))}
        self.fails(NoName, "u", program, A, {**ring, **TAKER}, [STOP, passing("u")])
        self.fails(NoName, "g", program, A, ring, [give(0, call("g"))])
        self.fails(WrongCount, "b", program, A, ring, [call("b", 1)])
        self.fails(NoName, "u", program, A, {**ring, "z": ("", Process.when("u", 0, STOP, STOP))}, [STOP])
        self.fails(WrongCount, "b", program, A, {**ring, "z": ("", call("b", 1))}, [STOP])

    def test_every_way_in_which_three_definitions_can_call(self):
        pairs = list(itertools.product("abc", repeat=2))
        for count in range(len(pairs) + 1):
            for calls in itertools.combinations(pairs, count):
                with self.subTest(calls=calls):
                    self.check_calls(calls)

    def check_calls(self, calls):
        """Compares with what follows from all chains of at most three calls."""
        definitions = {}
        for name in "cab":
            body = STOP
            for caller, called in calls:
                if caller == name:
                    body = Process.when(0, 0, call(called), body)
            definitions[name] = ("", body)
        two = {(one, other) for one, way in calls for same, other in calls if way == same}
        three = {(one, other) for one, way in two for same, other in calls if way == same}
        looped = [name for name in "abc" if (name, name) in {*calls, *two, *three}]
        if looped:
            self.endless(looped[0], definitions)
        else:
            program(A, definitions)


if __name__ == "__main__":
    unittest.main()

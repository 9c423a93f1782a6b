"""The interface: each class, function and method is defined where the document lists it."""

import importlib
import inspect
import unittest

# Each file with its classes and functions, and the methods of each class.
INTERFACE = {
    "errors": {
        name: () for name in (
            "SeatsError", "BadTerm", "BadText", "NoName", "WrongCount", "Endless", "Clash", "NoMachine", "NoSeating",
            "NoMeeting", "Dependent", "NoRun", "NoJoin", "BadMessage", "NoMessage", "NetworkFull", "BadSetting",
            "AlreadyDriven", "NotDone", "NothingToUndo", "BadCommand",
        )
    },
    "terms": {
        "Process": ("stop", "offer", "new", "when", "call", "__add__", "__or__", "__eq__", "__rmul__"),
        "Net": ("__init__", "__len__", "__getitem__", "__iter__", "__or__", "__ior__", "__rmul__", "__eq__"),
    },
    "book": {
        "Definition": ("__init__", "__eq__"),
        "Book": (
            "__init__", "__setitem__", "__getitem__", "__contains__", "__len__", "__iter__", "names", "__or__",
            "__ior__", "__eq__",
        ),
    },
    "program": {"Program": ("__init__", "declared", "definitions", "processes", "channel_of", "__eq__")},
    "texts": {name: () for name in ("process_text", "process_read", "program_text", "program_read")},
    "seating": {name: () for name in ("first_seating", "least_bar", "seatings")},
    "runs": {
        "Run": (
            "__init__", "empty", "__len__", "__getitem__", "__iter__", "__add__", "__floordiv__", "__sub__", "__eq__",
            "depends", "exchanged",
        ),
        "joined": (),
    },
    "plain": {
        "Plain": (
            "__init__", "turn_of", "menu_of", "created_by", "all_channels", "first_on", "bar_on", "meet", "stuck",
            "meetings",
        ),
    },
    "listing": {name: () for name in ("fault", "runs")},
    "messages": {"Message": ("__init__", "written", "read", "__eq__")},
    "party": {"Party": ("__init__", "party_starts", "party_handles", "party_ticks")},
    "home": {"Home": ("__init__", "home_handles", "home_ticks", "opens")},
    "machine": {"Machine": ("__init__", "party_starts", "handle", "tick", "view")},
    "world": {
        "World": (
            "__init__", "perform", "drive", "all_or_none", "messages", "decided_run", "view", "all_channels",
            "first_on",
            "bar_on", "unanswered", "at_rest", "driven", "room", "set_room", "ROOM",
        ),
    },
    "policies": {"Road": ("__call__",), "Script": ("__init__", "__call__"), "Until": ("__init__", "__call__")},
    "schedules": {"schedule": ()},
    "desk": {"Desk": ("__init__", "tell")},
}
# How many arguments each method of the later files takes, besides its own object.
ARGUMENTS = {
    "runs": {"Run": {"depends": 2, "exchanged": 1, "empty": 0}},
    "plain": {
        "Plain": {
            "turn_of": 1, "menu_of": 1, "created_by": 1, "all_channels": 0, "first_on": 1, "bar_on": 1, "meet": 2,
            "stuck": 0, "meetings": 0,
        },
    },
    "messages": {"Message": {"written": 0, "read": 1}},
    "party": {"Party": {"party_starts": 0, "party_handles": 1, "party_ticks": 0}},
    "home": {"Home": {"home_handles": 1, "home_ticks": 0, "opens": 2}},
    "machine": {"Machine": {"party_starts": 0, "handle": 1, "tick": 0, "view": 0}},
    "world": {
        "World": {
            "perform": 1, "drive": 2, "all_or_none": 1, "messages": 0, "decided_run": 0, "view": 1, "all_channels": 0,
            "first_on": 1, "bar_on": 1, "unanswered": 1, "at_rest": 0, "set_room": 1,
        },
    },
    "policies": {"Road": {"__call__": 1}, "Script": {"__call__": 1}, "Until": {"__call__": 1}},
    "desk": {"Desk": {"tell": 1}},
}


class Interface(unittest.TestCase):
    def test_everything_is_defined_in_its_file(self):
        for file, listed in INTERFACE.items():
            module = importlib.import_module("fullseats." + file)
            for name in listed:
                with self.subTest(file=file, name=name):
                    self.assertEqual(getattr(module, name).__module__, module.__name__)

    def test_every_method_is_defined_in_its_class(self):
        for file, listed in INTERFACE.items():
            module = importlib.import_module("fullseats." + file)
            for name, methods in listed.items():
                for method in methods:
                    with self.subTest(name=name, method=method):
                        self.assertIn(method, vars(getattr(module, name)))

    def test_arguments(self):
        for file, listed in ARGUMENTS.items():
            module = importlib.import_module("fullseats." + file)
            for name, methods in listed.items():
                for method, count in methods.items():
                    static = isinstance(vars(getattr(module, name))[method], staticmethod)
                    taken = inspect.signature(getattr(getattr(module, name), method)).parameters
                    with self.subTest(name=name, method=method):
                        self.assertEqual(len(taken), count if static else count + 1)

    def test_no_other_errors(self):
        module = importlib.import_module("fullseats.errors")
        defined = [name for name, value in vars(module).items() if inspect.isclass(value)]
        self.assertEqual(sorted(defined), sorted(INTERFACE["errors"]))


if __name__ == "__main__":
    unittest.main()

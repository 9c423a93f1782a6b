"""The error classes: their attributes and their base classes."""

import unittest

from fullseats import errors
from fullseats.errors import SeatsError
from fullseats.terms import Process

# The attribute of each class, or None.
CLASSES = {
    "BadTerm": "field",
    "BadText": "line",
    "NoName": "name",
    "WrongCount": "name",
    "Endless": "name",
    "Clash": "name",
    "NoMachine": "machine",
    "NoSeating": "channel",
    "NoMeeting": "place",
    "Dependent": "place",
    "NoRun": "place",
    "NoJoin": None,
    "BadMessage": "text",
    "NoMessage": "place",
    "NetworkFull": "limit",
    "BadSetting": "value",
    "AlreadyDriven": None,
    "NotDone": "place",
    "NothingToUndo": None,
    "BadCommand": None,
}
# More digits than Python itself is willing to write.
LARGE = 10 ** 5000
ARGUMENTS = [0, 7, -1, 10 ** 40, "", "seat", "a {name} and a % sign", (), (0, 2, 3), ("x", (1, 2)), ((1, 2, 3),)]


def made(name, argument=None):
    """An error of the class of this name."""
    if CLASSES[name] is None:
        return getattr(errors, name)()
    return getattr(errors, name)(argument)


class Errors(unittest.TestCase):
    def test_the_arguments_are_attributes(self):
        for name, attribute in CLASSES.items():
            for argument in ARGUMENTS:
                if attribute is not None:
                    with self.subTest(name=name, argument=argument):
                        self.assertEqual(getattr(made(name, argument), attribute), argument)

    def test_no_other_attributes_are_needed_to_create_the_rest(self):
        for name in [name for name, attribute in CLASSES.items() if attribute is None]:
            with self.subTest(name=name):
                self.assertIsInstance(made(name), SeatsError)

    def test_every_class_is_derived_directly_from_the_base_class(self):
        self.assertEqual(SeatsError.__bases__, (ValueError,))
        for name in CLASSES:
            with self.subTest(name=name):
                self.assertEqual(getattr(errors, name).__bases__, (SeatsError,))

    def test_an_error_is_of_none_of_the_other_classes(self):
        for name in CLASSES:
            error = made(name, 3)
            for other in CLASSES:
                with self.subTest(name=name, other=other):
                    self.assertEqual(isinstance(error, getattr(errors, other)), name == other)

    def test_an_error_is_caught_by_its_class_and_by_the_base_classes(self):
        for name in CLASSES:
            for base in (getattr(errors, name), SeatsError, ValueError):
                with self.subTest(name=name, base=base):
                    with self.assertRaises(base):
                        raise made(name, (1, 2))

    def test_an_error_can_be_shown(self):
        for name in CLASSES:
            for argument in ARGUMENTS:
                with self.subTest(name=name, argument=argument):
                    self.assertIsInstance(str(made(name, argument)), str)
                    self.assertIsInstance(repr(made(name, argument)), str)

    def test_an_argument_may_be_an_integer_of_any_size(self):
        # A check that fails would have to write the number: so only True and False are compared.
        for name, attribute in CLASSES.items():
            for argument in (LARGE, -LARGE, (0, LARGE, 2), ((LARGE,), -LARGE)):
                if attribute is not None:
                    with self.subTest(name=name):
                        self.assertTrue(getattr(made(name, argument), attribute) == argument)
                        self.assertIsInstance(str(made(name, argument)), str)

    def test_an_integer_of_any_size_is_refused_by_the_error_of_the_document(self):
        stop = Process.stop()
        for action in (
            lambda number: Process.new("a", number, stop),
            lambda number: Process.offer("a", number, 1, 5, [], stop),
            lambda number: Process.offer("a", 0, number, 5, [], stop),
            lambda number: Process.offer("a", 0, 1, number, [], stop),
            lambda number: Process.when(number, 0, stop, stop),
            lambda number: Process.call("f", [number]),
        ):
            for number in (LARGE, -LARGE):
                with self.assertRaises(errors.BadTerm):
                    action(number)
        with self.assertRaises(errors.BadTerm):
            LARGE * stop

    def test_the_base_class_can_be_raised_alone(self):
        with self.assertRaises(ValueError):
            raise SeatsError()


if __name__ == "__main__":
    unittest.main()

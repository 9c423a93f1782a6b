"""Definitions and books (point 9)."""

import unittest

from fullseats.book import Book, Definition
from fullseats.errors import BadTerm, Clash, NoName
from fullseats.terms import Process
from helpers import BAD_NAMES, GOOD_NAMES, STOP, TermCase, offer


def numbered(number):
    """A definition that differs from those of other numbers."""
    return Definition([], Process.call("f", [number]))


def book_of(*pairs):
    """A book of names, each with the number of its definition."""
    book = Book()
    for name, number in pairs:
        book[name] = numbered(number)
    return book


def letters(text):
    """A book that defines each letter of the text, alike in all books."""
    return book_of(*[(letter, ord(letter)) for letter in text])


def extend(left, right):
    """Performs the operator |= and returns what is then on its left side."""
    left |= right
    return left


def assign(book, name, definition):
    """Assigns an item."""
    book[name] = definition


class Definitions(TermCase):
    def test_zero_to_four_parameters(self):
        params = ["a", "b", "c", "d"]
        for count in range(5):
            for given in (params[:count], tuple(params[:count])):
                made = Definition(given, STOP)
                self.assertEqual(made.params, tuple(params[:count]))
                self.assertTrue(type(made.params) is tuple)
                self.assertEqual(made.body, STOP)

    def test_more_parameters(self):
        self.refuses("params", Definition, ["a", "b", "c", "d", "e"], STOP)
        self.refuses("params", Definition, ("a", "b", "c", "d", "e"), STOP)

    def test_parameters_that_are_not_names(self):
        for name in BAD_NAMES:
            with self.subTest(name=name):
                self.refuses("params", Definition, [name], STOP)
                self.refuses("params", Definition, ["a", "b", "c", name], STOP)
        for name in GOOD_NAMES:
            self.assertEqual(Definition([name], STOP).params, (name,))

    def test_equal_parameters(self):
        for params in (["a", "a"], ["a", "b", "a"], ("a", "b", "c", "c")):
            self.refuses("params", Definition, params, STOP)

    def test_the_list_that_was_passed_is_copied(self):
        params = ["a", "b"]
        made = Definition(params, STOP)
        params[0] = "z"
        params.append("y")
        self.assertEqual(made.params, ("a", "b"))

    def test_the_body_is_any_process(self):
        for body in (STOP, offer(), Process.new("a", 1, STOP), Process.when(0, 1, STOP, STOP), Process.call("f", [])):
            self.assertEqual(Definition([], body).body, body)

    def test_equality(self):
        makers = [
            lambda: Definition(["a", "b"], offer()),
            lambda: Definition(["b", "a"], offer()),
            lambda: Definition(["a", "c"], offer()),
            lambda: Definition(["a"], offer()),
            lambda: Definition([], offer()),
            lambda: Definition(["a", "b"], offer(operand=6)),
            lambda: Definition(["a", "b"], STOP),
            lambda: offer(),
            lambda: ("a", "b"),
            lambda: (("a", "b"), offer()),
        ]
        for at, one in enumerate(makers):
            for place, other in enumerate(makers):
                with self.subTest(one=at, other=place):
                    self.assertEqual(one() == other(), at == place)
                    self.assertEqual(one() != other(), at != place)
        self.assertEqual(Definition(("a", "b"), STOP), Definition(["a", "b"], STOP))


class Items(TermCase):
    def test_an_empty_book(self):
        book = Book()
        self.assertEqual((len(book), list(book), book.names(), "a" in book), (0, [], [], False))

    def test_assigned_definitions_are_read(self):
        book = book_of(("b", 1), ("a", 2))
        self.assertEqual(book["b"], numbered(1))
        self.assertEqual(book["a"], numbered(2))
        self.assertEqual(len(book), 2)
        self.assertTrue("a" in book and "b" in book)
        self.assertFalse("c" in book or "" in book)

    def test_a_name_that_is_not_defined(self):
        book = letters("ab")
        for name in ("c", "ab", "", "stop", "A"):
            with self.assertRaises(NoName) as caught:
                book[name]
            self.assertEqual(caught.exception.name, name)
        with self.assertRaises(NoName):
            Book()["a"]

    def test_a_new_definition_comes_last(self):
        book = letters("mzab")
        self.assertEqual(list(book), ["m", "z", "a", "b"])
        self.assertEqual([name for name in book], ["m", "z", "a", "b"])

    def test_a_replaced_definition_keeps_its_place(self):
        book = letters("mzab")
        for at, name in enumerate("mzab"):
            book[name] = numbered(at)
            self.assertEqual(list(book), ["m", "z", "a", "b"])
            self.assertEqual(book[name], numbered(at))
        self.assertEqual(len(book), 4)

    def test_the_names_are_ascending(self):
        book = book_of(("z", 0), ("b", 0), ("a10", 0), ("a2", 0), ("aa", 0), ("a", 0))
        self.assertEqual(book.names(), ["a", "a10", "a2", "aa", "b", "z"])

    def test_names_that_are_not_allowed(self):
        book = letters("ab")
        for name in BAD_NAMES:
            self.refuses("name", assign, book, name, numbered(1))
        self.assertEqual(list(book), ["a", "b"])
        for name in GOOD_NAMES:
            single = Book()
            single[name] = numbered(1)
            self.assertEqual(list(single), [name])

    def test_twelve_definitions_but_not_more(self):
        book = letters("abcdefghijkl")
        self.assertEqual(len(book), 12)
        self.refuses("definitions", assign, book, "m", numbered(1))
        self.assertEqual(book, letters("abcdefghijkl"))
        self.assertFalse("m" in book)
        book["c"] = numbered(1)
        self.assertEqual((len(book), book["c"]), (12, numbered(1)))

    def test_the_name_is_checked_before_the_number(self):
        self.refuses("name", assign, letters("abcdefghijkl"), "stop", numbered(1))

    def test_lists_that_were_returned_are_not_the_book(self):
        book = letters("ab")
        book.names().clear()
        returned = book.names()
        returned.append("c")
        list(book).clear()
        self.assertEqual((book.names(), list(book)), (["a", "b"], ["a", "b"]))
        kept = book.names()
        book["c"] = numbered(1)
        self.assertEqual(kept, ["a", "b"])

    def test_a_book_may_be_changed_by_whoever_iterates_over_it(self):
        book = letters("ab")
        for name in book:
            book[name + "2"] = book[name]
        self.assertEqual(list(book), ["a", "b", "a2", "b2"])

    def test_books_do_not_share_their_definitions(self):
        one, other = Book(), Book()
        one["a"] = numbered(1)
        self.assertEqual(len(other), 0)


class Unions(TermCase):
    """The operators | and |= of books."""

    def test_the_order(self):
        made = letters("mza") | letters("ybax")
        self.assertEqual(list(made), ["m", "z", "a", "y", "b", "x"])
        for name in made:
            self.assertEqual(made[name], numbered(ord(name)))

    def test_with_empty_books(self):
        self.assertEqual(list(Book() | Book()), [])
        self.assertEqual(list(letters("ba") | Book()), ["b", "a"])
        self.assertEqual(list(Book() | letters("ba")), ["b", "a"])

    def test_the_result_is_new(self):
        for one, other in ((letters("ba"), letters("c")), (letters("ba"), Book()), (Book(), letters("ba"))):
            first, second = list(one), list(other)
            made = one | other
            self.assertTrue(type(made) is Book)
            kept = list(made)
            made["z"] = numbered(1)
            self.assertEqual((list(one), list(other)), (first, second))
            one["y"] = numbered(2)
            other["x"] = numbered(3)
            self.assertEqual(list(made), kept + ["z"])

    def test_a_clash_names_the_least_name(self):
        one = book_of(("z", 1), ("c", 1), ("b", 1), ("a", 1))
        other = book_of(("c", 2), ("a", 1), ("z", 2), ("b", 2))
        for action in (lambda: one | other, lambda: other | one):
            with self.assertRaises(Clash) as caught:
                action()
            self.assertEqual(caught.exception.name, "b")

    def test_a_clash_in_the_body_or_in_the_parameters(self):
        one, body, params = Book(), Book(), Book()
        one["f"] = Definition(["x"], STOP)
        body["f"] = Definition(["x"], offer())
        params["f"] = Definition(["y"], STOP)
        for other in (body, params):
            with self.assertRaises(Clash):
                one | other

    def test_equal_definitions_do_not_clash(self):
        self.assertEqual(list(letters("ab") | letters("ba")), ["a", "b"])

    def test_twelve_definitions_but_not_more(self):
        self.assertEqual(len(letters("abcdef") | letters("ghijkl")), 12)
        self.assertEqual(len(letters("abcdefghijkl") | letters("lkja")), 12)
        self.refuses("definitions", lambda: letters("abcdef") | letters("ghijklm"))
        self.refuses("definitions", lambda: letters("abcdefghijkl") | letters("m"))

    def test_a_clash_comes_before_the_number(self):
        with self.assertRaises(Clash):
            letters("abcdefghijkl") | book_of(("x", 1), ("a", 1))
        with self.assertRaises(Clash):
            extend(letters("abcdefghijkl"), book_of(("x", 1), ("a", 1)))

    def test_only_of_books(self):
        book = letters("ab")
        for other in ({"c": numbered(1)}, [], 5, None, STOP):
            for action in (extend, lambda left, right: left | right, lambda left, right: right | left):
                with self.assertRaises(TypeError):
                    action(book, other)
        self.assertEqual(book, letters("ab"))

    def test_in_place(self):
        book = letters("mza")
        alias = book
        other = letters("ybax")
        book |= other
        self.assertTrue(alias is book)
        self.assertEqual(list(alias), ["m", "z", "a", "y", "b", "x"])
        self.assertEqual(list(other), ["y", "b", "a", "x"])
        other["c"] = numbered(1)
        book["d"] = numbered(1)
        self.assertEqual(list(alias), ["m", "z", "a", "y", "b", "x", "d"])
        self.assertEqual(list(other), ["y", "b", "a", "x", "c"])

    def test_in_place_by_itself(self):
        book = letters("ba")
        self.assertTrue(extend(book, book) is book)
        self.assertEqual(list(book), ["b", "a"])

    def test_a_refusal_changes_nothing(self):
        cases = (
            (letters("ba"), book_of(("c", 1), ("a", 1)), Clash),
            (letters("abcdefghijkl"), letters("xa"), BadTerm),
        )
        for one, other, error in cases:
            first, second = one | Book(), other | Book()
            for action in (extend, lambda left, right: left | right):
                with self.assertRaises(error):
                    action(one, other)
                self.assertEqual((one, other), (first, second))
                self.assertEqual((list(one), list(other)), (list(first), list(second)))
        self.refuses("definitions", extend, letters("abcdefghijkl"), letters("xa"))

    def test_a_replaced_definition_in_a_union_keeps_its_place(self):
        made = letters("ba") | letters("c")
        made["b"] = numbered(7)
        self.assertEqual(list(made), ["b", "a", "c"])


class Equality(TermCase):
    def test_whatever_the_order(self):
        self.assertTrue(Book() == Book())
        self.assertTrue(letters("abc") == letters("cab"))
        self.assertFalse(letters("abc") != letters("cab"))

    def test_other_names_or_definitions(self):
        book = letters("abc")
        for other in (Book(), letters("ab"), letters("abcd"), letters("abd"), letters("ab") | book_of(("c", 1))):
            self.assertFalse(book == other)
            self.assertTrue(book != other)
            self.assertFalse(other == book)

    def test_a_book_equals_nothing_else(self):
        for other in ([], {}, (), None, {"a": numbered(97)}, ["a"]):
            self.assertFalse(Book() == other)
            self.assertFalse(letters("a") == other)

    def test_equality_follows_a_change(self):
        one, other = letters("ab"), letters("ba")
        one["a"] = numbered(1)
        self.assertNotEqual(one, other)
        other["a"] = numbered(1)
        self.assertEqual(one, other)


if __name__ == "__main__":
    unittest.main()

"""The parts of processes: names, operands, seats, and the order of the checks (points 3, 5 and 7)."""

import unittest

from fullseats.terms import Process
from helpers import BAD_NAMES, BAD_OPERANDS, GOOD_NAMES, GOOD_OPERANDS, RESERVED, STOP, TermCase, offer, sized, tower

BAD_SEATS = [0, 5, -1, -4, 6, 10 ** 40, True, False]
NO_NAME = "Bad"
LONG = 10 ** 30
FIVE = [1, 2, 3, 4, 5]


class Names(TermCase):
    def test_names_of_one_to_eight_characters(self):
        for name in GOOD_NAMES:
            with self.subTest(name=name):
                self.assertEqual(offer(channel=name).parts[0][0], name)
                self.assertEqual(Process.new(name, 1, STOP).parts[0], name)
                self.assertEqual(Process.call(name, []).parts[0], name)
                self.assertEqual(offer(seats=2, names=[name]).parts[0][4], (name,))

    def test_every_letter_and_digit(self):
        for letter in "abcdefghijklmnopqrstuvwxyz":
            self.assertEqual(Process.call(letter, []).parts[0], letter)
        for sign in "abcdefghijklmnopqrstuvwxyz0123456789":
            self.assertEqual(Process.call("x" + sign, []).parts[0], "x" + sign)

    def test_strings_that_are_not_names(self):
        for name in BAD_NAMES:
            with self.subTest(name=name):
                self.refuses("channel", Process.offer, name, 0, 1, 5, [], STOP)
                self.refuses("name", Process.new, name, 1, STOP)
                self.refuses("name", Process.call, name, [])
                self.refuses("names", Process.offer, "a", 0, 2, 5, [name], STOP)
                self.refuses("names", Process.offer, "a", 0, 3, 5, ["x", name], STOP)

    def test_every_character_that_is_not_allowed(self):
        allowed = "abcdefghijklmnopqrstuvwxyz0123456789"
        for sign in [chr(code) for code in range(256) if chr(code) not in allowed]:
            self.refuses("name", Process.call, sign, [])
            self.refuses("name", Process.call, "x" + sign, [])

    def test_a_reserved_word_is_refused_as_a_whole_only(self):
        for word in RESERVED:
            longer = word + "x" if len(word) < 8 else word[:-1]
            with self.subTest(word=word):
                self.refuses("name", Process.call, word, [])
                self.assertEqual(Process.call(longer, []).parts[0], longer)


class Operands(TermCase):
    def test_names_and_integers_with_at_most_thirty_digits(self):
        for operand in GOOD_OPERANDS:
            with self.subTest(operand=operand):
                self.assertEqual(offer(operand=operand).parts[0][3], operand)
                self.assertEqual(Process.when(operand, 0, STOP, STOP).parts[0], operand)
                self.assertEqual(Process.when(0, operand, STOP, STOP).parts[1], operand)
                self.assertEqual(Process.call("f", [operand]).parts[1], (operand,))

    def test_what_is_not_allowed_as_an_operand(self):
        for operand in BAD_OPERANDS:
            with self.subTest(operand=operand):
                self.refuses("operand", Process.offer, "a", 0, 1, operand, [], STOP)
                self.refuses("left", Process.when, operand, 0, STOP, STOP)
                self.refuses("right", Process.when, 0, operand, STOP, STOP)
                self.refuses("operands", Process.call, "f", [operand])
                self.refuses("operands", Process.call, "f", [1, "x", 3, operand])

    def test_zero_to_four_operands_of_a_call(self):
        for count in range(5):
            self.assertEqual(Process.call("f", list(range(count))).parts, ("f", tuple(range(count))))
        self.refuses("operands", Process.call, "f", FIVE)
        self.refuses("operands", Process.call, "f", tuple(FIVE))
        self.refuses("operands", Process.call, "f", ["x"] * 1000)

    def test_operands_may_be_equal(self):
        self.assertEqual(Process.call("f", ["f", "f", 1, 1]).parts, ("f", ("f", "f", 1, 1)))


class Seats(TermCase):
    def test_one_to_four_seats(self):
        for seats in range(1, 5):
            self.assertEqual(Process.new("a", seats, STOP).parts[1], seats)
            for seat in range(seats):
                made = offer(seat=seat, seats=seats, names=["x", "y", "z"][:seats - 1])
                self.assertEqual(made.parts[0][1:3], (seat, seats))

    def test_other_numbers_of_seats(self):
        for seats in BAD_SEATS:
            with self.subTest(seats=seats):
                self.refuses("seats", Process.new, "a", seats, STOP)
                self.refuses("seats", Process.offer, "a", 0, seats, 5, [], STOP)

    def test_a_seat_is_less_than_the_number_of_seats(self):
        for seats in range(1, 5):
            for seat in (-1, -seats, seats, seats + 1, 10 ** 40, -10 ** 40, False):
                with self.subTest(seat=seat, seats=seats):
                    self.refuses("seat", Process.offer, "a", seat, seats, 5, ["x", "y", "z"][:seats - 1], STOP)
        self.refuses("seat", Process.offer, "a", True, 2, 5, ["x"], STOP)

    def test_one_name_for_each_other_seat(self):
        names = ["v", "w", "x", "y", "z"]
        for seats in range(1, 5):
            for count in range(6):
                arguments = ("a", 0, seats, 5, names[:count], STOP)
                with self.subTest(seats=seats, count=count):
                    if count == seats - 1:
                        self.assertEqual(Process.offer(*arguments).parts[0][4], tuple(names[:count]))
                    else:
                        self.refuses("names", Process.offer, *arguments)

    def test_the_names_of_an_offer_are_different(self):
        for names in (["x", "x"], ("x", "x"), ["x", "y", "x"], ["x", "x", "y"], ["y", "x", "x"]):
            self.refuses("names", Process.offer, "a", 0, len(names) + 1, 5, names, STOP)

    def test_a_bound_name_may_be_the_channel_or_the_operand(self):
        made = Process.offer("a", 0, 3, "a", ["a", "b"], STOP)
        self.assertEqual(made.parts, (("a", 0, 3, "a", ("a", "b"), STOP),))


class Order(TermCase):
    """Where several parts are wrong, the first one in the order of the checks counts."""

    def test_offer(self):
        deep = tower(20)
        self.refuses("channel", Process.offer, NO_NAME, 9, 9, LONG, [NO_NAME], deep)
        self.refuses("seats", Process.offer, "a", 9, 9, LONG, [NO_NAME], deep)
        self.refuses("seat", Process.offer, "a", 2, 2, LONG, [NO_NAME], deep)
        self.refuses("operand", Process.offer, "a", 1, 2, LONG, [NO_NAME], deep)
        self.refuses("names", Process.offer, "a", 1, 2, 5, [NO_NAME], deep)
        self.refuses("depth", Process.offer, "a", 1, 2, 5, ["x"], deep)

    def test_new(self):
        self.refuses("name", Process.new, NO_NAME, 0, tower(20))
        self.refuses("seats", Process.new, "a", 0, tower(20))
        self.refuses("depth", Process.new, "a", 1, tower(20))

    def test_when(self):
        self.refuses("left", Process.when, LONG, NO_NAME, tower(20), STOP)
        self.refuses("right", Process.when, 0, NO_NAME, tower(20), STOP)
        self.refuses("depth", Process.when, 0, 0, tower(20), STOP)

    def test_call(self):
        self.refuses("name", Process.call, NO_NAME, FIVE)
        self.refuses("operands", Process.call, "f", FIVE)

    def test_the_parts_come_before_the_size(self):
        big = sized(400)
        self.refuses("channel", Process.offer, NO_NAME, 0, 1, 5, [], big)
        self.refuses("names", Process.offer, "a", 0, 1, 5, ["x"], big)
        self.refuses("seats", Process.new, "a", 5, big)
        self.refuses("right", Process.when, 0, NO_NAME, big, big)

    def test_the_depth_comes_before_the_size(self):
        both = Process.when(0, 0, tower(19), sized(380))
        self.refuses("depth", Process.new, "a", 1, both)
        self.refuses("depth", Process.when, 0, 0, STOP, both)
        self.refuses("depth", Process.offer, "a", 0, 1, 5, [], both)


if __name__ == "__main__":
    unittest.main()

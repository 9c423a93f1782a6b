"""Seatings and bars (point 17)."""

import inspect
import itertools
import random
import unittest

from fullseats.seating import first_seating, least_bar, seatings


def all_seatings(seats, entries):
    """All seatings, found by trying every way to take one entry for each seat."""
    choices = [[(machine, place) for machine, place, at in entries if at == seat] for seat in range(seats)]
    return sorted(
        pairs for pairs in itertools.product(*choices) if len({machine for machine, place in pairs}) == seats
    )


def all_bars(seats, entries):
    """All bars, the least one first, found by trying every set of seats."""
    found = []
    for count in range(1, seats + 1):
        for chosen in itertools.combinations(range(seats), count):
            if len({machine for machine, place, seat in entries if seat in chosen}) < count:
                found.append(chosen)
    return found


def subsets(entries):
    """All subsets of a list, as lists."""
    return [
        list(chosen) for count in range(len(entries) + 1) for chosen in itertools.combinations(entries, count)
    ]


class Seatings(unittest.TestCase):
    def check(self, seats, entries):
        """Compares all answers with what trying everything finds."""
        passed = list(entries)
        found, bars = all_seatings(seats, entries), all_bars(seats, entries)
        with self.subTest(seats=seats, entries=entries):
            self.assertEqual(list(seatings(seats, passed)), found)
            self.assertEqual(first_seating(seats, passed), found[0] if found else None)
            self.assertEqual(least_bar(seats, passed), bars[0] if bars else None)
            self.assertEqual(passed, entries)
            self.assertEqual(len(found) == 0, len(bars) > 0)

    def test_no_entries(self):
        for seats in range(1, 5):
            self.assertIsNone(first_seating(seats, []))
            self.assertEqual(least_bar(seats, []), (0,))
            self.assertEqual(list(seatings(seats, [])), [])

    def test_one_seat(self):
        self.assertEqual(list(seatings(1, [(3, 1, 0), (0, 5, 0), (3, 0, 0)])), [((0, 5),), ((3, 0),), ((3, 1),)])
        self.assertEqual(first_seating(1, [(3, 1, 0), (0, 5, 0)]), ((0, 5),))
        self.assertIsNone(least_bar(1, [(3, 1, 0)]))

    def test_one_machine_at_several_seats(self):
        entries = [(2, seat, seat) for seat in range(4)]
        for seats, bar in ((2, (0, 1)), (3, (0, 1)), (4, (0, 1))):
            given = [entry for entry in entries if entry[2] < seats]
            self.assertIsNone(first_seating(seats, given))
            self.assertEqual(least_bar(seats, given), bar)
            self.assertEqual(list(seatings(seats, given)), [])

    def test_a_choice_seat_by_seat_would_miss_it(self):
        entries = [(0, 0, 0), (1, 0, 0), (0, 1, 1)]
        self.assertEqual(first_seating(2, entries), ((1, 0), (0, 1)))
        entries = [(0, 0, 0), (1, 0, 0), (2, 0, 0), (0, 1, 1), (1, 1, 1), (0, 2, 2)]
        self.assertEqual(first_seating(3, entries), ((2, 0), (1, 1), (0, 2)))
        entries = [(machine, seat, seat) for seat in range(4) for machine in range(4 - seat)]
        self.assertEqual(list(seatings(4, entries)), [((3, 0), (2, 1), (1, 2), (0, 3))])

    def test_several_places_of_a_machine(self):
        entries = [(1, 4, 1), (0, 3, 0), (1, 2, 1), (0, 1, 0), (0, 0, 1)]
        self.assertEqual(
            list(seatings(2, entries)), [((0, 1), (1, 2)), ((0, 1), (1, 4)), ((0, 3), (1, 2)), ((0, 3), (1, 4))]
        )

    def test_the_least_bar_has_the_fewest_seats(self):
        # Seats 0 and 1 are one bar, seat 3 alone is a smaller one.
        entries = [(0, 0, 0), (0, 1, 1), (1, 0, 2), (2, 0, 2)]
        self.assertEqual(least_bar(4, entries), (3,))
        # The pairs of seats 1 and 3, and 2 and 3, are bars, and so are larger sets.
        entries = [(0, 0, 1), (0, 1, 3), (0, 2, 2), (1, 0, 0), (2, 0, 0)]
        self.assertEqual(least_bar(4, entries), (1, 2))
        entries = [(0, 0, 1), (0, 1, 3), (1, 2, 2), (2, 2, 2), (1, 0, 0), (2, 0, 0)]
        self.assertEqual(least_bar(4, entries), (1, 3))
        entries = [(machine, seat, seat) for seat in (0, 1, 3) for machine in (4, 5)] + [(0, 2, 2), (1, 2, 2)]
        self.assertEqual(least_bar(4, entries), (0, 1, 3))
        entries = [(machine, seat, seat) for seat in range(4) for machine in range(3)]
        self.assertEqual(least_bar(4, entries), (0, 1, 2, 3))

    def test_the_kinds_of_the_answers(self):
        entries = [(0, 0, 0), (1, 0, 1)]
        self.assertTrue(type(first_seating(2, entries)) is tuple)
        self.assertTrue(all(type(pair) is tuple for pair in first_seating(2, entries)))
        self.assertTrue(type(least_bar(2, entries[1:])) is tuple)
        self.assertTrue(inspect.isgenerator(seatings(2, entries)))

    def test_every_list_of_few_entries(self):
        for machines, places, seats in ((3, 1, 3), (2, 2, 2), (3, 2, 1), (2, 1, 4), (4, 1, 2)):
            entries = list(itertools.product(range(machines), range(places), range(seats)))
            for chosen in subsets(entries):
                self.check(seats, chosen)

    def test_many_lists_in_any_order(self):
        numbers = random.Random(17)
        for turn in range(600):
            seats = numbers.randint(1, 4)
            entries = list(itertools.product(range(6), range(3), range(seats)))
            self.check(seats, numbers.sample(entries, numbers.randint(0, min(16, len(entries)))))

    def test_the_order_of_the_entries_does_not_count(self):
        entries = [(0, 0, 0), (1, 0, 0), (0, 1, 1), (2, 0, 1)]
        for order in itertools.permutations(entries):
            self.check(2, list(order))

    def test_a_list_that_is_changed_while_its_seatings_are_asked_for(self):
        entries = [(machine, place, seat) for machine in range(3) for place in range(2) for seat in range(3)]
        expected = all_seatings(3, entries)
        found = []
        for seating in seatings(3, entries):
            found.append(seating)
            entries.clear()
        self.assertEqual(found, expected)

    def test_many_entries(self):
        entries = [(machine, 0, seat) for machine in range(300) for seat in range(3)]
        self.assertIsNone(first_seating(4, entries))
        self.assertEqual(least_bar(4, entries), (3,))
        entries += [(0, place, 3) for place in range(300)]
        self.assertEqual(first_seating(4, entries), ((1, 0), (2, 0), (3, 0), (0, 0)))
        self.assertIsNone(least_bar(4, entries))
        entries = [(machine, place, seat) for machine in (7, 8, 9) for place in range(60) for seat in range(4)]
        self.assertEqual(list(seatings(4, entries)), [])
        self.assertEqual(least_bar(4, entries), (0, 1, 2, 3))


if __name__ == "__main__":
    unittest.main()

"""Seatings of a channel, and the bars that prevent them."""


def seatings(seats, entries):
    """Yields all seatings with different machines, ascending."""
    rows = sorted(entries)
    # Where a bar is, a search seat by seat could go on for long and find nothing.
    if least_bar(seats, rows) is not None:
        return
    if seats == 0:
        yield ()
    fewer = seats - 1
    for machine, place, seat in rows:
        if seat == 0:
            left = left_for_others(machine, rows)
            for seating in seatings(fewer, left):
                yield ((machine, place),) + seating


def first_seating(seats, entries):
    """The first seating, or None."""
    for seating in seatings(seats, entries):
        return seating
    return None


def least_bar(seats, entries):
    """The least bar, or None."""
    for chosen in sets_of_seats(seats):
        if len({machine for machine, place, seat in entries if seat in chosen}) < len(chosen):
            return chosen
    return None


def left_for_others(taken, entries):
    """The entries of the other machines at the seats behind seat 0, which are counted from 0 again."""
    return [(machine, place, seat - 1) for machine, place, seat in entries if seat > 0 and machine != taken]


def sets_of_seats(seats):
    """All sets of at least one seat as ascending tuples; those with fewer seats come first."""
    found = [()]
    for seat in range(seats):
        found = found + [chosen + (seat,) for chosen in found]
    return sorted(found[1:], key=lambda row: (len(row), row))

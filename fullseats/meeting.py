"""Which meetings are possible.

What the machines offer is told as a dict: under each machine its turn and its rows. A row
`(place, channel, seat, value)` stands for an offer.
"""

from fullseats.seating import first_seating, least_bar, seatings

# The least bar of any channel that nobody offers to meet on.
FIRST_SEAT = (0,)


def machines_in(meeting):
    """The machines of all parts of a meeting, as a list in the order of the seats."""
    channel, parts = meeting
    return [machine for machine, turn, place, value in parts]


def meeting_on(channel, seating, offered):
    """The record of the meeting on a channel with a seating, or None if it is not possible."""
    machines = [machine for machine, place in seating]
    if not machines or len(machines) != channel[2] or len(set(machines)) != len(machines):
        return None
    parts = []
    for seat, (machine, place) in enumerate(seating):
        parts.extend(parts_at(machine, (place, channel, seat), offered))
    return (channel, tuple(parts)) if len(parts) == len(machines) else None


def parts_at(machine, wanted, offered):
    """The part that a machine gives by its row with this place, channel and seat, in a list; empty if there is none."""
    if machine not in offered:
        return []
    turn, rows = offered[machine]
    return [
        (machine, turn, place, value) for place, channel, seat, value in rows if (place, channel, seat) == wanted
    ]


def entries_by_channel(offered):
    """The entries `(machine, place, seat)` of each channel for which there are some, as a dict of lists."""
    entries = {}
    for machine in offered:
        turn, rows = offered[machine]
        for place, channel, seat, value in rows:
            entries[channel] = entries.get(channel, []) + [(machine, place, seat)]
    return entries


def seating_among(channel, offered):
    """The first seating of a channel, or None."""
    entries = entries_by_channel(offered).get(channel, [])
    # A channel without entries may not even exist, and its number of seats may be any number.
    return first_seating(channel[2], entries) if entries else None


def bar_among(channel, offered):
    """The least bar of a channel, or None."""
    entries = entries_by_channel(offered).get(channel, [])
    return least_bar(channel[2], entries) if entries else FIRST_SEAT


def first_step(offered):
    """The first channel that has a first seating, and this seating, as a pair; or None."""
    entries = entries_by_channel(offered)
    for channel in sorted(entries):
        seating = first_seating(channel[2], entries[channel])
        if seating is not None:
            return (channel, seating)
    return None


def all_steps(offered):
    """All pairs of a channel and a seating with which a meeting is possible, ascending."""
    entries = entries_by_channel(offered)
    steps = []
    for channel in sorted(entries):
        seats = channel[2]
        given = entries[channel]
        for seating in seatings(seats, given):
            steps.append((channel, seating))
    return steps

"""The runs of a program, and whether a sequence of meetings is one."""

from fullseats.meeting import all_steps, meeting_on
from fullseats.states import first_states, offered_in, states_behind


def fault(program, meetings):
    """The index of the first meeting that is not possible or recorded with wrong parts, or None."""
    states = first_states(program)
    for at, meeting in enumerate(meetings):
        channel, parts = meeting
        seating = [(machine, place) for machine, turn, place, value in parts]
        if meeting_on(channel, seating, offered_in(states)) != meeting:
            return at
        states = states_behind(program, states, meeting)
    return None


def runs(program, most):
    """Yields all runs of a program with at most so many meetings, each before the longer ones that begin with it."""
    # The next run to yield stands last: its beginning, the states behind that, and the step that follows.
    # It is worked out only when it is asked for, as there may be very many.
    left = [((), first_states(program), None)]
    while left:
        begun, states, step = left.pop()
        if step is not None:
            channel, seating = step
            meeting = meeting_on(channel, seating, offered_in(states))
            begun = begun + (meeting,)
            states = states_behind(program, states, meeting)
        yield list(begun)
        if len(begun) < most:
            steps = all_steps(offered_in(states))
            left.extend([(begun, states, following) for following in steps[::-1]])

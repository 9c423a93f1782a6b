"""How a new world is led to the meetings of a run."""

from fullseats.errors import NoRun
from fullseats.listing import fault
from fullseats.world import World


def schedule(program, meetings):
    """The deeds which lead a new world of the program to decide exactly these meetings, in this order."""
    wrong = fault(program, meetings)
    if wrong is not None:
        raise NoRun(wrong)
    world = World(program)
    deeds = calm_down(world)
    for channel, parts in meetings:
        attempt = ("attempt", channel, tuple([(machine, place) for machine, turn, place, value in parts]))
        world.perform(attempt)
        deeds = deeds + [attempt] + calm_down(world)
    return deeds


def calm_down(world):
    """Delivers all messages, and those that are sent meanwhile; returns the deeds."""
    # Behind that the books contain all that the machines offer, and no party is bound.
    deeds = []
    while world.message_count() > 0:
        deeds.append(("deliver", 0))
        world.perform(deeds[-1])
    return deeds

"""Policies: what a world that is driven does next."""


class Road:
    """Leads every world to its next meeting, if there is one."""

    def __call__(self, world):
        """The next deed, or None if the world is at rest."""
        if world.message_count() > 0:
            return ("deliver", 0)
        if world.any_unanswered():
            return ("tick_all",)
        return world.next_attempt()


class Script:
    """Returns given deeds, one at each call, and then None."""

    def __init__(self, deeds):
        """Keeps the deeds, a list."""
        self.deeds = tuple(deeds)
        self.given = 0

    def __call__(self, world):
        """The next deed, or None."""
        if self.given == len(self.deeds):
            return None
        self.given += 1
        return self.deeds[self.given - 1]


class Until:
    """Asks another policy until enough meetings have been decided."""

    def __init__(self, policy, count):
        """Keeps the other policy, and how many meetings are enough."""
        self.policy = policy
        self.count = count

    def __call__(self, world):
        """The deed of the other policy, or None."""
        if len(world.decided_run()) >= self.count:
            return None
        return self.policy(world)

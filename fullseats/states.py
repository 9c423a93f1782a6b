"""How the process of a machine is evaluated, and how it goes on behind a meeting."""

from fullseats.meeting import machines_in


class State:
    """What a machine has come to: its turn, its channels and its menu. It is made once and never changed."""

    def __init__(self, machine, turn, created, offers, bindings):
        """Keeps the seats of all channels that the machine has created, and its offers with their bindings."""
        self.machine = machine
        self.turn = turn
        self.created = created
        self.offers = offers
        self.bindings = bindings
        self.menu = tuple([entry_of(offer, bindings) for offer in offers])
        self.rows = rows_of(self.menu)


def value_of(operand, bindings):
    """The value of an operand."""
    return bindings[operand] if isinstance(operand, str) else operand


def entry_of(offer, bindings):
    """The entry of an offer in the menu."""
    channel, seat, seats, operand, names, rest = offer
    return (bindings[channel], seat, seats, value_of(operand, bindings))


def rows_of(menu):
    """The rows `(place, channel, seat, value)` of the offers of a menu that stand, in order."""
    return tuple([
        (place, channel, seat, value)
        for place, (channel, seat, seats, value) in enumerate(menu)
        if isinstance(channel, tuple) and channel[2] == seats
    ])


def first_state(program, machine):
    """The state of a machine that has evaluated its start process."""
    created = tuple([seats for name, seats, home in program.declared() if home == machine])
    return evaluated(program, machine, 0, created, program.by_channel_name, program.net[machine])


def evaluated(program, machine, turn, created, bindings, process):
    """The state of a machine that has evaluated a process."""
    while process.kind != "choice":
        if process.kind == "new":
            name, seats, rest = process.parts
            bindings = {**bindings, name: (machine, len(created), seats)}
            created = created + (seats,)
            process = rest
        elif process.kind == "if":
            left, right, yes, no = process.parts
            process = yes if value_of(left, bindings) == value_of(right, bindings) else no
        else:
            name, operands = process.parts
            definition = program.book[name]
            passed = dict(zip(definition.params, [value_of(operand, bindings) for operand in operands]))
            bindings = {**program.by_channel_name, **passed}
            process = definition.body
    return State(machine, turn, created, process.parts, bindings)


def state_behind(program, state, meeting):
    """The state of a machine behind a meeting in which it takes part."""
    channel, parts = meeting
    places = [place for machine, turn, place, value in parts if machine == state.machine]
    received = [value for machine, turn, place, value in parts if machine != state.machine]
    on, seat, seats, operand, names, rest = state.offers[places[0]]
    bound = dict(zip(names, received))
    bindings = {**state.bindings, **bound}
    return evaluated(program, state.machine, state.turn + 1, state.created, bindings, rest)


def first_states(program):
    """The states of all machines at the beginning, as a tuple."""
    return tuple([first_state(program, machine) for machine in range(program.machines)])


def states_behind(program, states, meeting):
    """The states of all machines behind a meeting, as a tuple."""
    machines = machines_in(meeting)
    return tuple([
        state_behind(program, state, meeting) if state.machine in machines else state for state in states
    ])


def offered_in(states):
    """What all machines offer in these states: under each machine its turn and its rows."""
    return {state.machine: (state.turn, state.rows) for state in states}


def channels_in(states):
    """All channels that exist in these states, ascending."""
    return [(state.machine, number, seats) for state in states for number, seats in enumerate(state.created)]

"""States: how they go on, how they lean, and which cells go on in a generation."""

STATES = 3
CHASE = 0
FIRE = 1


def state_after(state, steps):
    """Give the state that a cell has when it has gone on so many times."""
    return (state + steps) % STATES


def lean_between(a, b):
    """Give the lean from state a to state b."""
    if a == b:
        return 0
    return 1 if b == state_after(a, 1) else -1


def walk_sum(states, cells):
    """Add up the leans along a walk."""
    return sum([lean_between(states[a], states[b]) for a, b in zip(cells, cells[1:])])


def goes_on(kind, near, states, cell):
    """Tell whether a cell, with these cells near it, goes on in the next generation."""
    if kind == FIRE and states[cell] != 0:
        return True
    # What a resting cell waits for in a fire is a burning neighbour: the state it goes on to, as in a chase.
    wanted = state_after(states[cell], 1)
    for other in near:
        if states[other] == wanted:
            return True
    return False


def steps_ahead(kind, neighbours, states):
    """Give for each cell 1 if it goes on in the next generation, else 0."""
    return [1 if goes_on(kind, near, states, cell) else 0 for cell, near in enumerate(neighbours)]

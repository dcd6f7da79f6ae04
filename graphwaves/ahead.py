"""What lies ahead of a wave, found by running its twin: the wave itself stays as it is."""


def end_of(wave):
    """Give the first generation in which no cell goes on, then how often each cell goes on until then.

    The wave must not live. Then heights can be kept all along, each growing as its cell goes on. No cell ever goes on
    above the greatest one (in a fire, above the next number that stands for rest): so an end comes.
    """
    trial = wave.twin()
    while trial.run(1) > 0:
        continue
    # The last generation was the one in which no cell went on.
    return [trial.time - 1] + trial.counts


def course_of(wave, most):
    """Give 1, when a configuration that comes again was there first, and how long it takes; 0 if none does by then."""
    trial = wave.twin()
    seen = {tuple(trial.states): 0}
    for generation in range(1, most + 1):
        trial.run(1)
        states = tuple(trial.states)
        if states in seen:
            return [1, seen[states], generation - seen[states]]
        seen[states] = generation
    return [0]

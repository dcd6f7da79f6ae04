"""The object that the calls are made on: a graph, a configuration, a kind, and what runs have done."""

from graphwaves.graph import neighbours_by
from graphwaves.states import CHASE, state_after, steps_ahead


class Wave:
    """A wave with its kind, its time and its counts."""

    def __init__(self):
        self.kind = CHASE
        self.take_graph(3, [(0, 1), (0, 2), (1, 2)])

    def take_graph(self, n, edges):
        """Lay another graph; its cells begin anew, the kind stays."""
        self.n = n
        self.edges = sorted(edges)
        self.neighbours = neighbours_by(n, edges)
        self.take_states([0] * n)

    def take_kind(self, kind):
        """Choose between chase and fire; the states stay."""
        self.kind = kind
        self.forget_runs()

    def take_states(self, states):
        """Give each cell a state."""
        self.states = list(states)
        self.forget_runs()

    def forget_runs(self):
        """Set the time and the counts to 0."""
        self.time = 0
        self.counts = [0] * self.n

    def run(self, generations):
        """Go through so many generations, and give back how often cells went on in them."""
        went_on = 0
        for generation in range(generations):
            steps = steps_ahead(self.kind, self.neighbours, self.states)
            if sum(steps) == 0:
                # A generation looks at the states alone: where none changes, none ever will.
                break
            self.states = [state_after(state, step) for state, step in zip(self.states, steps)]
            self.counts = [count + step for count, step in zip(self.counts, steps)]
            went_on += sum(steps)
        self.time += generations
        return went_on

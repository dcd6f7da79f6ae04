"""The object that the calls are made on: a graph, a configuration, a kind, and what runs have done."""

from graphwaves.graph import edge_between, neighbours_by
from graphwaves.states import CHASE, state_after, steps_ahead


def placed_by(names, values):
    """Give the values in another order: each at the place that the names have for it."""
    placed = [0 for value in values]
    for name, value in zip(names, values):
        placed[name] = value
    return placed


class Wave:
    """A wave with its kind, its time and its counts."""

    def __init__(self):
        self.kind = CHASE
        self.take_graph(3, [(0, 1), (0, 2), (1, 2)])

    def take_graph(self, n, edges):
        """Lay another graph; its cells begin anew, the kind stays."""
        self.n = n
        self.take_edges(edges)
        self.take_states([0] * n)

    def take_edges(self, edges):
        """Put these edges between the cells."""
        self.edges = sorted(edges)
        self.neighbours = neighbours_by(self.n, edges)

    def take_kind(self, kind):
        """Choose between chase and fire; the states stay."""
        self.kind = kind
        self.forget_runs()

    def take_states(self, states):
        """Give each cell a state."""
        self.states = list(states)
        self.forget_runs()

    def forget_runs(self):
        """Set the time and the counts to 0."""
        self.time = 0
        self.counts = [0] * self.n

    def run(self, generations):
        """Go through so many generations, and give back how often cells went on in them."""
        went_on = 0
        for generation in range(generations):
            steps = steps_ahead(self.kind, self.neighbours, self.states)
            if sum(steps) == 0:
                # A generation looks at the states alone: where none changes, none ever will.
                break
            self.states = [state_after(state, step) for state, step in zip(self.states, steps)]
            self.counts = [count + step for count, step in zip(self.counts, steps)]
            went_on += sum(steps)
        self.time += generations
        return went_on

    def turn(self, steps):
        """Let every cell go on so many times; that is no run."""
        self.states = [state_after(state, steps) for state in self.states]

    def rename(self, names):
        """Call each cell by its entry among the names from now on."""
        self.take_edges([edge_between(names[a], names[b]) for a, b in self.edges])
        self.states = placed_by(names, self.states)
        self.counts = placed_by(names, self.counts)

    def twin(self):
        """Give another wave that is like this one but for its runs, so that it can be run in this one's stead."""
        other = Wave()
        other.take_kind(self.kind)
        other.take_graph(self.n, self.edges)
        other.take_states(self.states)
        return other

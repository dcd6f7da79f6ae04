"""The program held against the model: all small waves, and many lists of calls of all sizes."""

import itertools
import random
import unittest

from tests.calling import GREATEST, LEAST, ask
from tests.model import Model

BOUNDS = (LEAST, GREATEST, -1, 0, 1, 2, 3, 15, 16, 17)


def model_answers(calls):
    model = Model()
    return [model.do(*call) for call in calls]


def some_edges(chance, n):
    pairs = [[a, b] if chance.random() < 0.5 else [b, a] for a in range(n) for b in range(a)]
    chosen = chance.sample(pairs, chance.randint(0, len(pairs)) if chance.random() < 0.5 else min(len(pairs), n + 1))
    return sum(chosen, [])


def some_walk(chance, n, edges, length):
    """A walk, if it has a way on; now and then it goes wrong."""
    cells = [chance.randrange(n)]
    while len(cells) < length:
        near = [edges[k ^ 1] for k in range(len(edges)) if edges[k] == cells[-1]]
        if not near or chance.random() < 0.002:
            near = [chance.randrange(n)]
        cells.append(chance.choice(near))
    return cells


def some_calls(chance):
    """A list of calls, most of them right ones."""
    n, edges = 3, [0, 1, 0, 2, 1, 2]
    calls = []
    for k in range(chance.randint(1, 40)):
        name = chance.choice(("graph", "told", "kind", "set", "set", "config", "run", "run", "counts", "time",
                              "lean", "walk", "heights", "heights"))
        wrong = chance.random() < 0.1
        if name == "graph":
            n = chance.randint(1, 16)
            edges = some_edges(chance, n)
            if wrong:
                calls.append((name, n, edges + [chance.choice(BOUNDS), chance.choice(BOUNDS)]))
                calls.append((name, chance.choice(BOUNDS), edges))
            calls.append((name, n, edges))
        elif name == "kind":
            calls.append((name, chance.choice(BOUNDS) if wrong else chance.randint(0, 1)))
        elif name == "set":
            states = [chance.randint(0, 2) for cell in range(n)]
            if wrong:
                states[chance.randrange(n)] = chance.choice(BOUNDS)
            calls.append((name, states))
        elif name == "run":
            calls.append((name, chance.choice(BOUNDS) if wrong else chance.randint(0, 12)))
        elif name == "lean":
            a, b = some_walk(chance, n, edges, 2)
            calls.append((name, a, chance.choice(BOUNDS) if wrong else b))
        elif name == "walk":
            length = chance.choice((1, 2, 5, 20, 255, 256, 257))
            walk = some_walk(chance, n, edges, length)
            calls.append((name, walk + [chance.choice(BOUNDS)] if wrong else walk))
        else:
            calls.append((name,))
    return calls + [("told",), ("config",), ("counts",), ("time",), ("heights",)]


class AgainstTheModel(unittest.TestCase):
    def test_all_waves_of_at_most_four_cells(self):
        for n in range(1, 5):
            pairs = list(itertools.combinations(range(n), 2))
            for chosen in itertools.product((False, True), repeat=len(pairs)):
                edges = [cell for pair, on in zip(pairs, chosen) if on for cell in pair]
                for states in itertools.product(range(3), repeat=n):
                    calls = [("graph", n, edges)]
                    for kind in (0, 1):
                        calls += [("kind", kind), ("set", list(states)), ("heights",), ("run", 1), ("config",),
                                  ("run", 3), ("config",), ("counts",), ("heights",)]
                    self.assertEqual(ask(*calls), model_answers(calls), calls)

    def test_many_lists_of_calls(self):
        for seed in range(400):
            calls = some_calls(random.Random(seed))
            self.assertEqual(ask(*calls), model_answers(calls), (seed, calls))


if __name__ == "__main__":
    unittest.main()

"""The program held against the model: all small waves, and many lists of calls of all sizes."""

import itertools
import random
import unittest

from tests.calling import GREATEST, LEAST, NUMBERS, ask
from tests.model import Model

BOUNDS = (LEAST, GREATEST, -1, 0, 1, 2, 3, 15, 16, 17, 1000, 1001)
PLAIN = ("told", "config", "counts", "time", "heights", "windings", "lives", "end", "parts")


def model_answers(calls):
    model = Model()
    return [model.do(*call) for call in calls]


def some_edges(chance, n):
    pairs = [[a, b] if chance.random() < 0.5 else [b, a] for a in range(n) for b in range(a)]
    chosen = chance.sample(pairs, chance.randint(0, len(pairs)) if chance.random() < 0.3 else min(len(pairs), n + 1))
    return sum(chosen, [])


def some_states(chance, n):
    """States at random, or a wave that runs from cell to cell, or few cells that don't rest."""
    form = chance.randrange(3)
    if form == 0:
        return [chance.randint(0, 2) for cell in range(n)]
    if form == 1:
        return [cell % 3 for cell in range(n)]
    return [chance.choice((0, 0, 0, 1, 2)) for cell in range(n)]


def some_walk(chance, n, edges, length):
    """A walk, if it has a way on; now and then it goes wrong."""
    cells = [chance.randrange(n)]
    while len(cells) < length:
        near = [edges[k ^ 1] for k in range(len(edges)) if edges[k] == cells[-1]]
        if not near or chance.random() < 0.002:
            near = [chance.randrange(n)]
        cells.append(chance.choice(near))
    return cells


class SomeCalls:
    """Makes lists of calls of all numbers, most of them right ones."""

    def __init__(self, seed):
        self.chance = random.Random(seed)
        self.n = 3
        self.edges = [0, 1, 0, 2, 1, 2]

    def make(self, length):
        calls = []
        while len(calls) < length:
            name = self.chance.choice(sorted(NUMBERS))
            if name in PLAIN:
                calls.append((name,))
            else:
                right = getattr(self, "make_" + name)()
                if self.chance.random() < 0.15:
                    calls.append(self.spoilt(right))
                calls.append(right)
        return calls + [(name,) for name in PLAIN]

    def spoilt(self, call):
        """The call with another number somewhere, or with more or fewer numbers in its list."""
        call = [list(value) if isinstance(value, list) else value for value in call]
        place = self.chance.randrange(1, len(call))
        if not isinstance(call[place], list):
            call[place] = self.chance.choice(BOUNDS)
        elif call[place] and self.chance.random() < 0.6:
            call[place][self.chance.randrange(len(call[place]))] = self.chance.choice(BOUNDS)
        elif call[place] and self.chance.random() < 0.5:
            call[place].pop()
        else:
            call[place].append(self.chance.choice(BOUNDS))
        if call[0] in ("graph", "rename") and model_answers([("graph", self.n, self.edges), call])[1] == [0]:
            # A spoilt call that is right all the same would lay another graph than the one that is kept in mind.
            return ("told",)
        return tuple(call)

    def cell(self):
        return self.chance.randrange(self.n)

    def make_graph(self):
        self.n = self.chance.randint(1, 16)
        self.edges = some_edges(self.chance, self.n)
        return ("graph", self.n, self.edges)

    def make_kind(self):
        return ("kind", self.chance.randint(0, 1))

    def make_set(self):
        return ("set", some_states(self.chance, self.n))

    def make_run(self):
        return ("run", self.chance.randint(0, 12))

    def make_lean(self):
        return ("lean", *some_walk(self.chance, self.n, self.edges, 2))

    def make_walk(self):
        length = self.chance.choice((1, 2, 5, 20, 255, 256, 257))
        return ("walk", some_walk(self.chance, self.n, self.edges, length))

    def make_ring(self):
        chords = Model()
        chords.do("graph", self.n, self.edges)
        if chords.chords() and self.chance.random() < 0.8:
            pair = list(self.chance.choice(chords.chords()))
            self.chance.shuffle(pair)
            return ("ring", *pair)
        return ("ring", *some_walk(self.chance, self.n, self.edges, 2))

    def make_best(self):
        return ("best", self.cell(), self.chance.choice((0, 1, 2, 3, 7, 16, 40)))

    def make_speed(self):
        return ("speed", self.cell())

    def make_course(self):
        return ("course", self.chance.choice((1, 2, 3, 4, 6, 10, 20, 1000)))

    def make_ball(self):
        return ("ball", self.cell(), self.chance.choice((0, 1, 1, 2, 2, 3, 4, 8, 16)))

    def make_turn(self):
        return ("turn", self.chance.randint(0, 2))

    def make_rename(self):
        names = list(range(self.n))
        self.chance.shuffle(names)
        self.edges = [names[cell] for cell in self.edges]
        return ("rename", names)


def all_graphs(n):
    pairs = list(itertools.combinations(range(n), 2))
    for chosen in itertools.product((False, True), repeat=len(pairs)):
        yield [cell for pair, on in zip(pairs, chosen) if on for cell in pair]


class AgainstTheModel(unittest.TestCase):
    def check(self, calls, *also):
        self.assertEqual(ask(*calls), model_answers(calls), (*also, calls))

    def test_all_waves_of_at_most_four_cells(self):
        for n in range(1, 5):
            for edges in all_graphs(n):
                for states in itertools.product(range(3), repeat=n):
                    calls = [("graph", n, edges)]
                    for kind in (0, 1):
                        calls += [("kind", kind), ("set", list(states)), ("end",), ("course", 3), ("course", 20),
                                  ("run", 1), ("config",), ("run", 3), ("config",), ("counts",)]
                    calls += [("set", list(states)), ("heights",), ("windings",), ("lives",), ("speed", 0),
                              ("speed", n - 1), ("best", 0, 2), ("best", n - 1, 5), ("rename", [n - 1, *range(n - 1)]),
                              ("told",), ("config",), ("heights",)]
                    self.check(calls)

    def test_all_graphs_of_at_most_five_cells(self):
        for n in range(1, 6):
            for edges in all_graphs(n):
                calls = [("graph", n, edges), ("told",), ("parts",)]
                calls += [("ring", a, b) for a in range(n) for b in range(n)]
                calls += [("ball", v, k) for v in range(n) for k in range(n)]
                self.check(calls)

    def test_many_lists_of_calls(self):
        for seed in range(400):
            self.check(SomeCalls(seed).make(30), seed)

    def test_lists_of_400_calls(self):
        for seed in (1001, 1002, 1003):
            calls = SomeCalls(seed).make(390)
            self.assertIn(len(calls), (399, 400))
            self.check(calls, seed)

    def test_every_call_is_there_right_and_refused(self):
        right = set()
        refused = set()
        for seed in range(400):
            calls = SomeCalls(seed).make(30)
            for call, given in zip(calls, ask(*calls)):
                (refused if given[0] < 0 else right).add((call[0], min(given[0], 0)))
        self.assertEqual({name for name, refusal in right}, set(NUMBERS))
        ranged = {"graph", "kind", "set", "run", "lean", "walk", "ring", "best", "speed", "course", "ball", "turn",
                  "rename"}
        others = {("lean", -5), ("walk", -5), ("ring", -5), ("end", -6), ("turn", -7)}
        self.assertEqual(refused, {(name, -1) for name in ranged} | others)


if __name__ == "__main__":
    unittest.main()

"""The calls once more, in the document's words and by other ways than the program's, to be held against it."""

import copy
from fractions import Fraction

AHEAD = {0: 1, 1: 2, 2: 0}


class Model:
    def __init__(self):
        self.kind = 0
        self.lay(3, [0, 1, 0, 2, 1, 2])

    def lay(self, n, numbers):
        self.n = n
        self.edges = {frozenset(numbers[k:k + 2]) for k in range(0, len(numbers), 2)}
        self.put([0] * n)

    def put(self, states):
        self.states = dict(enumerate(states))
        self.reset()

    def reset(self):
        self.time = 0
        self.counts = dict.fromkeys(range(self.n), 0)

    def touch(self, a, b):
        return frozenset((a, b)) in self.edges and a != b

    def lean(self, a, b):
        return {0: 0, 1: 1, 2: -1}[(self.states[b] - self.states[a]) % 3]

    def generation(self):
        burning = {v for v in range(self.n) if self.states[v] == 1}
        going = set()
        for v in range(self.n):
            near = {w for w in range(self.n) if self.touch(v, w)}
            if self.kind == 0:
                on = AHEAD[self.states[v]] in {self.states[w] for w in near}
            else:
                on = self.states[v] in (1, 2) or bool(near & burning)
            if on:
                going.add(v)
        for v in going:
            self.states[v] = AHEAD[self.states[v]]
            self.counts[v] += 1
        self.time += 1
        return len(going)

    def ways(self):
        """How many steps from each cell to each other, by trying every cell between."""
        far = 99
        way = {(a, b): 0 if a == b else 1 if self.touch(a, b) else far for a in range(self.n) for b in range(self.n)}
        for c in range(self.n):
            for a in range(self.n):
                for b in range(self.n):
                    way[a, b] = min(way[a, b], way[a, c] + way[c, b])
        return way

    def roots(self):
        way = self.ways()
        return {v: min(w for w in range(self.n) if way[v, w] < 99) for v in range(self.n)}

    def forest(self):
        """Each cell's parent, but for the roots; a parent comes before its children."""
        way = self.ways()
        root = self.roots()
        parent = {}
        for v in sorted(range(self.n), key=lambda v: way[v, root[v]]):
            if root[v] != v:
                parent[v] = min(w for w in range(self.n)
                                if self.touch(v, w) and way[w, root[v]] == way[v, root[v]] - 1)
        return parent

    def heights(self):
        parent = self.forest()
        height = {v: self.states[v] for v in range(self.n) if v not in parent}
        for v in parent:
            height[v] = height[parent[v]] + self.lean(parent[v], v)
        return height

    def chords(self):
        forest = {frozenset(pair) for pair in self.forest().items()}
        return sorted(tuple(sorted(edge)) for edge in self.edges - forest)

    def windings(self):
        height = self.heights()
        windings = []
        for a, b in self.chords():
            gap = height[a] + self.lean(a, b) - height[b]
            assert gap % 3 == 0
            windings.append([a, b, gap // 3])
        return windings

    def forest_way(self, a, b):
        """The one way from a to b along the forest's edges, found by cutting the dead ends off."""
        left = set(range(self.n))
        edges = {frozenset(pair) for pair in self.forest().items()}
        while True:
            dead = {v for v in left - {a, b} if len([edge for edge in edges if v in edge]) < 2}
            if not dead:
                break
            left -= dead
            edges = {edge for edge in edges if not edge & dead}
        way = [a]
        while way[-1] != b:
            way.extend(v for edge in edges if way[-1] in edge for v in edge if v not in way)
        return way

    def sums(self, v, most):
        """For 0, 1, .. steps: the greatest sum of a walk of just so many from v to each cell that has one."""
        rows = [{v: 0}]
        leans = self.leans()
        while len(rows) <= most:
            ends = {}
            for (a, b), lean in leans.items():
                if a in rows[-1]:
                    ends.setdefault(b, []).append(rows[-1][a] + lean)
            rows.append({b: max(sums) for b, sums in ends.items()})
        return rows

    def leans(self):
        pairs = [tuple(edge) for edge in self.edges]
        return {pair: self.lean(*pair) for a, b in pairs for pair in ((a, b), (b, a))}

    def out_of_cells(self, *cells):
        return any(cell < 0 or cell >= self.n for cell in cells)

    def do(self, name, *given):
        return getattr(self, "do_" + name)(*given)

    def do_graph(self, n, numbers):
        if n < 1 or n > 16 or len(numbers) % 2 or any(c < 0 or c >= n for c in numbers):
            return [-1]
        pairs = [frozenset(numbers[k:k + 2]) for k in range(0, len(numbers), 2)]
        if any(len(pair) < 2 or pairs.count(pair) > 1 for pair in pairs):
            return [-1]
        self.lay(n, numbers)
        return [0]

    def do_told(self):
        pairs = [[a, b] for a in range(self.n) for b in range(a, self.n) if self.touch(a, b)]
        return [self.n, len(pairs)] + sum(pairs, [])

    def do_kind(self, f):
        if f not in (0, 1):
            return [-1]
        self.kind = f
        self.reset()
        return [0]

    def do_set(self, states):
        if len(states) != self.n or not set(states) <= {0, 1, 2}:
            return [-1]
        self.put(states)
        return [0]

    def do_config(self):
        return [self.n] + [self.states[v] for v in range(self.n)]

    def do_run(self, t):
        if t < 0 or t > 1000:
            return [-1]
        return [sum(self.generation() for k in range(t))]

    def do_counts(self):
        return [self.n] + [self.counts[v] for v in range(self.n)]

    def do_time(self):
        return [self.time]

    def do_lean(self, a, b):
        if not {a, b} <= set(range(self.n)):
            return [-1]
        return [0, self.lean(a, b)] if self.touch(a, b) else [-5]

    def do_walk(self, cells):
        if not 1 <= len(cells) <= 256 or not set(cells) <= set(range(self.n)):
            return [-1]
        total = 0
        for k in range(1, len(cells)):
            if not self.touch(cells[k - 1], cells[k]):
                return [-5]
            total += self.lean(cells[k - 1], cells[k])
        return [0, total]

    def do_heights(self):
        for a, b, winding in self.windings():
            if winding:
                return [0, a, b, winding]
        height = self.heights()
        return [1] + [height[v] for v in range(self.n)]

    def do_windings(self):
        windings = self.windings()
        return sum(windings, [len(windings)])

    def do_ring(self, a, b):
        if self.out_of_cells(a, b):
            return [-1]
        if tuple(sorted((a, b))) not in self.chords():
            return [-5]
        cells = [min(a, b)] + self.forest_way(max(a, b), min(a, b))[:-1]
        return [len(cells)] + cells

    def do_lives(self):
        """A wave doesn't live if numbers can be given to the cells that differ along each edge by its lean."""
        number = dict.fromkeys(self.roots().values(), 0)
        leans = self.leans().items()
        for k in range(self.n):
            for (a, b), lean in leans:
                if a in number:
                    number.setdefault(b, number[a] + lean)
        return [int(any(number[b] - number[a] != lean for (a, b), lean in leans))]

    def do_end(self):
        if self.do_lives() == [1]:
            return [-6]
        other = copy.deepcopy(self)
        other.reset()
        going = [other.generation()]
        while going[-1]:
            going.append(other.generation())
        return [going.index(0)] + [other.counts[v] for v in range(self.n)]

    def do_best(self, v, t):
        if self.out_of_cells(v) or t < 0 or t > 1000:
            return [-1]
        return [max(total for row in self.sums(v, t) for total in row.values())]

    def do_speed(self, v):
        """By Karp's words on the greatest mean of a ring, with walks from v alone."""
        if self.out_of_cells(v):
            return [-1]
        root = self.roots()
        size = list(root.values()).count(root[v])
        rows = self.sums(v, size)
        means = [min(Fraction(rows[size][w] - rows[k][w], size - k) for k in range(size) if w in rows[k])
                 for w in rows[size]]
        fastest = max(means, default=Fraction(0))
        return [fastest.numerator, fastest.denominator]

    def do_course(self, most):
        if most < 1 or most > 1000:
            return [-1]
        other = copy.deepcopy(self)
        configs = [other.do_config()]
        for t in range(most):
            other.generation()
            now = other.do_config()
            if now in configs:
                return [1, configs.index(now), len(configs) - configs.index(now)]
            configs.append(now)
        return [0]

    def do_ball(self, v, k):
        if self.out_of_cells(v) or k not in range(17):
            return [-1]
        way = self.ways()
        cells = [w for w in range(self.n) if way[v, w] <= k]
        return [len(cells)] + cells

    def do_parts(self):
        root = self.roots()
        return [self.n] + [root[v] for v in range(self.n)]

    def do_turn(self, c):
        if c not in (0, 1, 2):
            return [-1]
        if self.kind == 1:
            return [-7]
        for k in range(c):
            self.states = {v: AHEAD[state] for v, state in self.states.items()}
        return [0]

    def do_rename(self, names):
        if len(names) != self.n or set(names) != set(range(self.n)):
            return [-1]
        self.edges = {frozenset(names[v] for v in edge) for edge in self.edges}
        self.states = {names[v]: state for v, state in self.states.items()}
        self.counts = {names[v]: count for v, count in self.counts.items()}
        return [0]

"""The calls once more, in the document's words and by other ways than the program's, to be held against it."""

AHEAD = {0: 1, 1: 2, 2: 0}


class Model:
    def __init__(self):
        self.kind = 0
        self.lay(3, [0, 1, 0, 2, 1, 2])

    def lay(self, n, numbers):
        self.n = n
        self.edges = {frozenset(numbers[k:k + 2]) for k in range(0, len(numbers), 2)}
        self.put([0] * n)

    def put(self, states):
        self.states = dict(enumerate(states))
        self.reset()

    def reset(self):
        self.time = 0
        self.counts = dict.fromkeys(range(self.n), 0)

    def touch(self, a, b):
        return frozenset((a, b)) in self.edges and a != b

    def lean(self, a, b):
        return {0: 0, 1: 1, 2: -1}[(self.states[b] - self.states[a]) % 3]

    def generation(self):
        burning = {v for v in range(self.n) if self.states[v] == 1}
        going = set()
        for v in range(self.n):
            near = {w for w in range(self.n) if self.touch(v, w)}
            if self.kind == 0:
                on = AHEAD[self.states[v]] in {self.states[w] for w in near}
            else:
                on = self.states[v] in (1, 2) or bool(near & burning)
            if on:
                going.add(v)
        for v in going:
            self.states[v] = AHEAD[self.states[v]]
            self.counts[v] += 1
        self.time += 1
        return len(going)

    def ways(self):
        """How many steps from each cell to each other, by trying every cell between."""
        far = 99
        way = {(a, b): 0 if a == b else 1 if self.touch(a, b) else far for a in range(self.n) for b in range(self.n)}
        for c in range(self.n):
            for a in range(self.n):
                for b in range(self.n):
                    way[a, b] = min(way[a, b], way[a, c] + way[c, b])
        return way

    def heights(self):
        way = self.ways()
        root = {v: min(w for w in range(self.n) if way[v, w] < 99) for v in range(self.n)}
        parent = {}
        for v in range(self.n):
            if root[v] != v:
                parent[v] = min(w for w in range(self.n)
                                if self.touch(v, w) and way[w, root[v]] == way[v, root[v]] - 1)
        height = {}
        for v in sorted(range(self.n), key=lambda v: way[v, root[v]]):
            height[v] = self.states[v] if root[v] == v else height[parent[v]] + self.lean(parent[v], v)
        forest = {frozenset(pair) for pair in parent.items()}
        for a, b in sorted(tuple(sorted(edge)) for edge in self.edges - forest):
            gap = height[a] + self.lean(a, b) - height[b]
            assert gap % 3 == 0
            if gap:
                return [0, a, b, gap // 3]
        return [1] + [height[v] for v in range(self.n)]

    def do(self, name, *given):
        return getattr(self, "do_" + name)(*given)

    def do_graph(self, n, numbers):
        if n < 1 or n > 16 or len(numbers) % 2 or any(c < 0 or c >= n for c in numbers):
            return [-1]
        pairs = [frozenset(numbers[k:k + 2]) for k in range(0, len(numbers), 2)]
        if any(len(pair) < 2 or pairs.count(pair) > 1 for pair in pairs):
            return [-1]
        self.lay(n, numbers)
        return [0]

    def do_told(self):
        pairs = [[a, b] for a in range(self.n) for b in range(a, self.n) if self.touch(a, b)]
        return [self.n, len(pairs)] + sum(pairs, [])

    def do_kind(self, f):
        if f not in (0, 1):
            return [-1]
        self.kind = f
        self.reset()
        return [0]

    def do_set(self, states):
        if len(states) != self.n or not set(states) <= {0, 1, 2}:
            return [-1]
        self.put(states)
        return [0]

    def do_config(self):
        return [self.n] + [self.states[v] for v in range(self.n)]

    def do_run(self, t):
        if t < 0 or t > 1000:
            return [-1]
        return [sum(self.generation() for k in range(t))]

    def do_counts(self):
        return [self.n] + [self.counts[v] for v in range(self.n)]

    def do_time(self):
        return [self.time]

    def do_lean(self, a, b):
        if not {a, b} <= set(range(self.n)):
            return [-1]
        return [0, self.lean(a, b)] if self.touch(a, b) else [-5]

    def do_walk(self, cells):
        if not 1 <= len(cells) <= 256 or not set(cells) <= set(range(self.n)):
            return [-1]
        total = 0
        for k in range(1, len(cells)):
            if not self.touch(cells[k - 1], cells[k]):
                return [-5]
            total += self.lean(cells[k - 1], cells[k])
        return [0, total]

    def do_heights(self):
        return self.heights()

"""The calls best and speed."""

import fractions
import itertools
import unittest

from tests.calling import GREATEST, LEAST, ask, check_refused, check_refused_everywhere, complete, last, path, ring

# A triangle 0 1 2, a ring 3 4 5 6, the cells 7 and 8 with an edge between them, and the cell 9 alone.
SEVERAL = [0, 1, 1, 2, 2, 0, 3, 4, 4, 5, 5, 6, 6, 3, 7, 8]


def best(n, edges, states, v, *bounds):
    """What best answers for v and each of the bounds."""
    calls = [("graph", n, edges), ("set", states)] + [("best", v, t) for t in bounds]
    return [given[0] for given in ask(*calls)[2:]]


def speeds(n, edges, states):
    """What speed answers for each cell."""
    return ask(("graph", n, edges), ("set", states), *[("speed", v) for v in range(n)])[2:]


def all_waves(n):
    pairs = list(itertools.combinations(range(n), 2))
    for chosen in itertools.product((False, True), repeat=len(pairs)):
        edges = [cell for pair, on in zip(pairs, chosen) if on for cell in pair]
        for states in itertools.product(range(3), repeat=n):
            yield edges, list(states)


def walks_from(edges, states, v, most):
    """Each walk from v of at most so many steps: how many it has, its sum and its last cell."""
    walks = [(0, 0, v)]
    for steps, total, cell in walks:
        if steps < most:
            for k, here in enumerate(edges):
                if here == cell:
                    other = edges[k ^ 1]
                    lean = (states[other] - states[cell] + 1) % 3 - 1
                    walks.append((steps + 1, total + lean, other))
    return walks


class Best(unittest.TestCase):
    def test_no_steps(self):
        for states in ([0, 1, 2], [0, 0, 1]):
            for v in range(3):
                self.assertEqual(best(3, complete(3), states, v, 0), [0])

    def test_rising_for_ever(self):
        for states in ([0, 1, 2], [0, 2, 1]):
            for v in range(3):
                self.assertEqual(best(3, complete(3), states, v, 1, 2, 3, 999, 1000), [1, 2, 3, 999, 1000])

    def test_a_cell_without_neighbours(self):
        self.assertEqual(best(1, [], [2], 0, 0, 1, 1000), [0, 0, 0])
        self.assertEqual(best(4, complete(3), [0, 1, 2, 2], 3, 0, 1, 1000), [0, 0, 0])

    def test_to_and_fro_raises_nothing(self):
        self.assertEqual(best(2, [0, 1], [0, 1], 0, 1, 2, 3, 1000), [1, 1, 1, 1])
        self.assertEqual(best(2, [0, 1], [0, 1], 1, 1, 2, 3, 1000), [0, 0, 0, 0])
        self.assertEqual(best(3, complete(3), [1, 1, 1], 0, 1, 2, 1000), [0, 0, 0])

    def test_a_path(self):
        states = [0, 1, 2, 0, 1, 2]
        self.assertEqual(best(6, path(6), states, 0, 0, 1, 2, 4, 5, 6, 1000), [0, 1, 2, 4, 5, 5, 5])
        self.assertEqual(best(6, path(6), states, 3, 0, 1, 2, 3, 1000), [0, 1, 2, 2, 2])
        self.assertEqual(best(6, path(6), states, 5, 0, 1, 5, 1000), [0, 0, 0, 0])

    def test_down_first_and_then_up(self):
        self.assertEqual(best(5, path(5), [1, 0, 1, 2, 0], 0, 0, 1, 2, 3, 4, 5, 1000), [0, 0, 0, 1, 2, 2, 2])

    def test_a_part_of_its_own(self):
        states = [0, 1, 2, 0, 1, 2, 0, 0, 1, 0]
        self.assertEqual(best(10, SEVERAL, states, 0, 1000), [1000])
        self.assertEqual(best(10, SEVERAL, states, 3, 1000), [750])
        self.assertEqual(best(10, SEVERAL, states, 7, 1000), [1])
        self.assertEqual(best(10, SEVERAL, states, 9, 1000), [0])

    def test_sixteen_cells(self):
        # Three steps of each round rise, from 0 to 3; from 3 on there are 13 level steps first.
        states = [0, 1, 2] + [0] * 13
        self.assertEqual(best(16, ring(16), states, 0, 3, 15, 16, 17, 1000), [3, 3, 3, 4, 189])
        self.assertEqual(best(16, ring(16), states, 3, 13, 14, 16, 29, 30, 1000), [0, 1, 3, 3, 4, 186])
        self.assertEqual(best(16, complete(16), [k % 3 for k in range(16)], 15, 0, 1, 1000), [0, 1, 1000])

    def test_the_kind_is_nothing_to_it(self):
        self.assertEqual(last(("kind", 1), ("set", [0, 1, 2]), ("best", 0, 7)), [7])

    def test_states_now(self):
        given = ask(("graph", 2, [0, 1]), ("set", [0, 1]), ("best", 0, 5), ("run", 1), ("best", 0, 5), ("time",))
        self.assertEqual(given[2:], [[1], [1], [0], [1]])

    def test_all_walks_on_few_cells(self):
        for n in (1, 2, 3):
            for edges, states in all_waves(n):
                for v in range(n):
                    walks = walks_from(edges, states, v, 5)
                    wanted = [max(total for steps, total, end in walks if steps <= t) for t in range(6)]
                    self.assertEqual(best(n, edges, states, v, *range(6)), wanted, (edges, states, v))

    def test_as_often_as_a_chase_goes_on(self):
        edges = [0, 1, 1, 2, 2, 3, 3, 4, 4, 0, 4, 5, 5, 6, 6, 4, 7, 8]
        for states in ([0, 1, 2, 0, 0, 1, 1, 0, 1], [2, 1, 0, 0, 1, 0, 2, 2, 0], [0, 0, 1, 1, 1, 2, 2, 1, 1]):
            begin = [("graph", 9, edges), ("set", states)]
            for t in (0, 1, 2, 3, 10, 100, 1000):
                told = [given[0] for given in ask(*begin, *[("best", v, t) for v in range(9)])[2:]]
                self.assertEqual([9] + told, last(*begin, ("run", t), ("counts",)))

    def test_out_of_range(self):
        for wrong in (-1, 5, 16, LEAST, GREATEST):
            check_refused_everywhere(self, ("best", wrong, 0), -1)
            check_refused_everywhere(self, ("best", wrong, wrong), -1)
        check_refused(self, ("best", 3, 1), -1, "new")
        for wrong in (-1, 1001, LEAST, GREATEST):
            check_refused_everywhere(self, ("best", 0, wrong), -1)


class Speed(unittest.TestCase):
    def test_the_example(self):
        self.assertEqual(last(("set", [0, 1, 2]), ("run", 3), ("speed", 0)), [1, 1])

    def test_a_part_without_an_edge(self):
        self.assertEqual(speeds(1, [], [1]), [[0, 1]])
        self.assertEqual(speeds(3, [], [0, 1, 2]), [[0, 1]] * 3)

    def test_waves_that_do_not_live(self):
        self.assertEqual(speeds(3, complete(3), [0, 0, 0]), [[0, 1]] * 3)
        self.assertEqual(speeds(3, complete(3), [0, 1, 1]), [[0, 1]] * 3)
        self.assertEqual(speeds(2, [0, 1], [0, 1]), [[0, 1]] * 2)
        self.assertEqual(speeds(6, path(6), [0, 1, 2, 0, 1, 2]), [[0, 1]] * 6)
        self.assertEqual(speeds(4, ring(4), [0, 1, 2, 1]), [[0, 1]] * 4)

    def test_a_speed_of_1(self):
        self.assertEqual(speeds(3, complete(3), [0, 2, 1]), [[1, 1]] * 3)
        self.assertEqual(speeds(6, ring(6), [0, 1, 2, 0, 1, 2]), [[1, 1]] * 6)

    def test_fractions(self):
        self.assertEqual(speeds(4, ring(4), [0, 1, 2, 2]), [[3, 4]] * 4)
        self.assertEqual(speeds(4, ring(4), [0, 2, 1, 1]), [[3, 4]] * 4)
        self.assertEqual(speeds(5, ring(5), [0, 1, 2, 2, 2]), [[3, 5]] * 5)

    def test_lowest_terms(self):
        self.assertEqual(speeds(6, ring(6), [0, 1, 2, 0, 0, 0]), [[1, 2]] * 6)
        self.assertEqual(speeds(9, ring(9), [0, 1, 2, 0, 1, 2, 2, 2, 2]), [[2, 3]] * 9)
        self.assertEqual(speeds(12, ring(12), [0, 1, 2] + [0] * 9), [[1, 4]] * 12)
        self.assertEqual(speeds(8, ring(8), [0, 1, 2, 0, 1, 2, 2, 2]), [[3, 4]] * 8)

    def test_other_parts_are_nothing_to_it(self):
        states = [0, 1, 2, 0, 1, 2, 0, 0, 1, 0]
        self.assertEqual(speeds(10, SEVERAL, states), [[1, 1]] * 3 + [[3, 4]] * 4 + [[0, 1]] * 3)
        states = [0, 1, 1, 0, 1, 2, 0, 0, 1, 0]
        self.assertEqual(speeds(10, SEVERAL, states), [[0, 1]] * 3 + [[3, 4]] * 4 + [[0, 1]] * 3)

    def test_the_fastest_of_a_part(self):
        # A ring 0 1 2 3, a triangle 4 5 6, an edge between them, and two more cells away from both.
        edges = ring(4) + [4, 5, 5, 6, 6, 4, 3, 4, 0, 7, 7, 8]
        self.assertEqual(speeds(9, edges, [0, 1, 2, 2, 0, 1, 2, 0, 0]), [[1, 1]] * 9)
        self.assertEqual(speeds(9, edges, [0, 1, 2, 2, 0, 1, 1, 0, 0]), [[3, 4]] * 9)
        self.assertEqual(speeds(9, edges, [0, 0, 2, 2, 0, 1, 1, 0, 0]), [[0, 1]] * 9)

    def test_a_walk_that_goes_round_from_afar_is_slower(self):
        # From cell 0 the triangle 1 2 3 can be gone round in 5 steps, with the same sum as from 1 in 3.
        edges = [0, 1, 1, 2, 2, 3, 3, 1]
        self.assertEqual(speeds(5, edges, [0, 0, 1, 2, 0]), [[1, 1]] * 4 + [[0, 1]])

    def test_the_shorter_of_two_rings(self):
        # The rings 0 1 2 3 and 0 4 5 6 7 have the same sum.
        edges = ring(4) + [0, 4, 4, 5, 5, 6, 6, 7, 7, 0]
        self.assertEqual(speeds(8, edges, [0, 1, 2, 2, 1, 2, 2, 2]), [[3, 4]] * 8)
        # Here the ring of 4 has none, and the other one does.
        self.assertEqual(speeds(8, edges, [0, 1, 1, 1, 1, 2, 2, 2]), [[3, 5]] * 8)

    def test_sixteen_cells(self):
        self.assertEqual(speeds(16, ring(16), [0, 1, 2] + [0] * 13), [[3, 16]] * 16)
        self.assertEqual(speeds(16, ring(16), [k % 3 for k in range(15)] + [2]), [[15, 16]] * 16)
        self.assertEqual(speeds(16, complete(16), [k % 3 for k in range(16)]), [[1, 1]] * 16)
        self.assertEqual(speeds(16, complete(16), [0] * 15 + [1]), [[0, 1]] * 16)

    def test_the_kind_is_nothing_to_it(self):
        self.assertEqual(last(("kind", 1), ("graph", 4, ring(4)), ("set", [0, 1, 2, 2]), ("speed", 1)), [3, 4])

    def test_all_closed_walks_on_few_cells(self):
        for n in (1, 2, 3):
            for edges, states in all_waves(n):
                wanted = []
                for v in range(n):
                    part = {cell for steps, total, cell in walks_from(edges, states, v, n)}
                    ratios = [fractions.Fraction(total, steps) for begin in part
                              for steps, total, cell in walks_from(edges, states, begin, n) if cell == begin and steps]
                    fastest = max(ratios, default=fractions.Fraction(0))
                    wanted.append([fastest.numerator, fastest.denominator])
                self.assertEqual(speeds(n, edges, states), wanted, (edges, states))

    def test_out_of_range(self):
        for wrong in (-1, 5, 16, LEAST, GREATEST):
            check_refused_everywhere(self, ("speed", wrong), -1)
        check_refused(self, ("speed", 3), -1, "new")


if __name__ == "__main__":
    unittest.main()

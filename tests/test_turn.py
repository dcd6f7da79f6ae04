"""The calls turn and rename."""

import unittest

from tests.calling import (
    BEFORE, GREATEST, LEAST, LOOKS, ask, check_refused, check_refused_everywhere, complete, last, path, ring,
)


class Turn(unittest.TestCase):
    def test_every_cell_goes_on(self):
        for c, states in ((0, [0, 1, 2]), (1, [1, 2, 0]), (2, [2, 0, 1])):
            self.assertEqual(ask(("set", [0, 1, 2]), ("turn", c), ("config",)), [[0], [0], [3] + states])

    def test_cells_without_neighbours_too(self):
        self.assertEqual(last(("graph", 4, []), ("set", [2, 0, 0, 1]), ("turn", 1), ("config",)), [4, 0, 1, 1, 2])

    def test_sixteen_cells(self):
        states = [k % 3 for k in range(16)]
        given = last(("graph", 16, path(16)), ("set", states), ("turn", 2), ("config",))
        self.assertEqual(given, [16] + [(k + 2) % 3 for k in range(16)])

    def test_turns_come_round(self):
        self.assertEqual(last(("set", [0, 1, 1]), ("turn", 1), ("turn", 2), ("config",)), [3, 0, 1, 1])

    def test_counts_and_time_stay(self):
        for c in (0, 1, 2):
            given = ask(("set", [0, 1, 1]), ("run", 4), ("turn", c), ("counts",), ("time",), ("told",))
            self.assertEqual(given[3:], [[3, 1, 0, 0], [4], [3, 3, 0, 1, 0, 2, 1, 2]])

    def test_a_chase_goes_on_as_it_would_have(self):
        for c in (0, 1, 2):
            given = ask(("set", [0, 1, 1]), ("turn", c), ("end",), ("windings",), ("run", 3), ("config",))
            self.assertEqual(given[2:], [[1, 1, 0, 0], [1, 1, 2, 0], [1], [3] + [(1 + c) % 3] * 3])

    def test_refused_in_a_fire(self):
        for c in (0, 1, 2):
            check_refused(self, ("turn", c), -7, "fire")
            self.assertEqual(ask(("kind", 1), ("turn", c), ("kind", 0), ("turn", c)), [[0], [-7], [0], [0]])

    def test_the_range_comes_before_the_kind(self):
        for wrong in (-1, 3, 4, LEAST, GREATEST):
            check_refused_everywhere(self, ("turn", wrong), -1)


class Rename(unittest.TestCase):
    def test_states_go_with_the_cells(self):
        self.assertEqual(ask(("set", [0, 1, 2]), ("rename", [1, 2, 0]), ("config",)), [[0], [0], [3, 2, 0, 1]])
        self.assertEqual(last(("set", [0, 1, 2]), ("rename", [2, 1, 0]), ("config",)), [3, 2, 1, 0])

    def test_edges_go_with_the_cells(self):
        self.assertEqual(last(("graph", 3, path(3)), ("rename", [2, 0, 1]), ("told",)), [3, 2, 0, 1, 0, 2])
        self.assertEqual(last(("graph", 5, [0, 1, 1, 2, 3, 4]), ("rename", [4, 0, 3, 2, 1]), ("told",)),
                         [5, 3, 0, 3, 0, 4, 1, 2])

    def test_neighbours_go_with_the_cells(self):
        begin = (("graph", 3, [0, 1]), ("set", [0, 1, 1]), ("rename", [1, 2, 0]))
        given = ask(*begin, ("config",), ("lean", 1, 2), ("lean", 0, 1), ("walk", [1, 2, 1]), ("parts",), ("run", 1),
                    ("counts",))
        self.assertEqual(given[3:], [[3, 1, 0, 1], [0, 1], [-5], [0, 0], [3, 0, 1, 1], [1], [3, 0, 1, 0]])

    def test_counts_go_with_the_cells_and_the_time_stays(self):
        given = ask(("graph", 3, path(3)), ("set", [0, 1, 2]), ("run", 1), ("rename", [2, 0, 1]),
                    ("config",), ("counts",), ("time",), ("told",))
        self.assertEqual(given[3:], [[0], [3, 2, 2, 1], [3, 1, 0, 1], [1], [3, 2, 0, 1, 0, 2]])

    def test_the_kind_stays(self):
        self.assertEqual(last(("kind", 1), ("set", [1, 2, 0]), ("rename", [0, 2, 1]), ("turn", 0)), [-7])
        self.assertEqual(last(("set", [1, 2, 0]), ("rename", [0, 2, 1]), ("turn", 0)), [0])

    def test_the_forest_is_another_one(self):
        # The path 0-1-2-3 becomes 2-0-3-1: its root is the second of its cells.
        begin = (("graph", 4, path(4)), ("set", [2, 0, 1, 2]))
        self.assertEqual(last(*begin, ("heights",)), [1, 2, 3, 4, 5])
        self.assertEqual(last(*begin, ("rename", [2, 0, 3, 1]), ("heights",)), [1, 0, 2, -1, 1])
        self.assertEqual(ask(("graph", 5, ring(5)), ("set", [0, 1, 2, 2, 2]), ("windings",),
                             ("rename", [1, 0, 2, 3, 4]), ("windings",))[2:], [[1, 2, 3, 1], [0], [1, 3, 4, 1]])

    def test_names_that_are_no_change(self):
        self.assertEqual(last(("graph", 1, []), ("set", [2]), ("rename", [0]), ("config",)), [1, 2])
        for before in BEFORE.values():
            n = last(*before, ("config",))[0]
            plain = ask(*before, *LOOKS)[len(before):]
            given = ask(*before, ("rename", list(range(n))), *LOOKS)[len(before):]
            self.assertEqual(given, [[0]] + plain)

    def test_a_rename_and_the_one_that_undoes_it(self):
        for name in ("chase", "fire"):
            before = BEFORE[name]
            plain = ask(*before, *LOOKS)[len(before):]
            given = ask(*before, ("rename", [3, 0, 4, 1, 2]), ("config",), ("rename", [1, 3, 4, 0, 2]), *LOOKS)
            self.assertEqual(given[len(before) + 3:], plain)
            self.assertNotEqual(given[len(before) + 1], plain[1])

    def test_sixteen_cells(self):
        names = [(5 * k + 3) % 16 for k in range(16)]
        states = [k * k % 3 for k in range(16)]
        given = ask(("graph", 16, ring(16)), ("set", states), ("rename", names), ("config",), ("told",))
        self.assertEqual([given[3][1 + name] for name in names], states)
        pairs = sorted(sorted((names[k], names[(k + 1) % 16])) for k in range(16))
        self.assertEqual(given[4], [16, 16] + sum(pairs, []))

    def test_a_run_before_or_behind_it(self):
        names = [3, 0, 4, 1, 2]
        for before in (BEFORE["chase"], BEFORE["fire"]):
            first = ask(*before, ("run", 5), ("rename", names), *LOOKS)[-len(LOOKS):]
            second = ask(*before, ("rename", names), ("run", 5), *LOOKS)[-len(LOOKS):]
            self.assertEqual(first, second)

    def test_lengths(self):
        for wrong in ([], [0], [1, 0], [0, 1, 2, 3], [0, 1, 2, 3, 4, 5], list(range(16)), list(range(300)), [0] * 300):
            check_refused_everywhere(self, ("rename", wrong), -1)
        check_refused(self, ("rename", [0, 1, 2, 3, 4]), -1, "new")
        for name in ("chase", "fire"):
            check_refused(self, ("rename", [2, 1, 0]), -1, name)

    def test_a_cell_twice(self):
        for wrong in ([0, 0, 1], [1, 2, 1], [2, 2, 2]):
            check_refused(self, ("rename", wrong), -1, "new")
        for wrong in ([0, 1, 2, 3, 3], [4, 3, 2, 1, 4], [0, 0, 0, 0, 0], [0, 1, 2, 3, 4, 4]):
            check_refused_everywhere(self, ("rename", wrong), -1)

    def test_cells_out_of_range(self):
        for wrong in (-1, 3, LEAST, GREATEST):
            for place in range(3):
                names = [2, 0, 1]
                names[place] = wrong
                check_refused(self, ("rename", names), -1, "new")
        for wrong in (-1, 5, LEAST, GREATEST):
            for place in range(5):
                names = [4, 3, 0, 1, 2]
                names[place] = wrong
                check_refused(self, ("rename", names), -1, "chase")
                check_refused(self, ("rename", names), -1, "fire")

    def test_a_graph_that_stays_as_it_is(self):
        self.assertEqual(last(("graph", 4, complete(4)), ("rename", [2, 3, 1, 0]), ("told",))[:2], [4, 6])


if __name__ == "__main__":
    unittest.main()

"""The calls kind, set and config."""

import unittest

from tests.calling import GREATEST, LEAST, ask, check_refused, check_refused_everywhere, last


class Set(unittest.TestCase):
    def test_new_states_are_0(self):
        self.assertEqual(ask(("config",)), [[3, 0, 0, 0]])

    def test_states_are_kept_in_order(self):
        self.assertEqual(ask(("set", [2, 0, 1]), ("config",)), [[0], [3, 2, 0, 1]])
        self.assertEqual(last(("set", [2, 0, 1]), ("set", [1, 1, 0]), ("config",)), [3, 1, 1, 0])

    def test_one_cell_and_sixteen_cells(self):
        self.assertEqual(last(("graph", 1, []), ("set", [2]), ("config",)), [1, 2])
        states = [0, 1, 2, 2, 1, 0, 0, 0, 1, 1, 2, 2, 0, 2, 1, 2]
        self.assertEqual(last(("graph", 16, [0, 15]), ("set", states), ("config",)), [16] + states)

    def test_counts_and_time_become_0(self):
        given = ask(("set", [0, 1, 2]), ("run", 4), ("set", [0, 1, 2]), ("counts",), ("time",), ("config",))
        self.assertEqual(given[1:], [[12], [0], [3, 0, 0, 0], [0], [3, 0, 1, 2]])

    def test_graph_and_kind_stay(self):
        given = ask(("kind", 1), ("graph", 4, [3, 1]), ("set", [1, 1, 0, 0]), ("told",), ("run", 1), ("config",))
        self.assertEqual(given[2:], [[0], [4, 1, 1, 3], [3], [4, 2, 2, 0, 1]])


class SetRefused(unittest.TestCase):
    def refused(self, states):
        check_refused_everywhere(self, ("set", states), -1)

    def test_lengths(self):
        for length in (0, 1, 2, 4, 6, 16, 17, 255, 256, 299, 300):
            self.refused([0] * length)
            self.refused([1] * length)
        check_refused(self, ("set", [0] * 5), -1, "new")
        for name in ("chase", "fire"):
            check_refused(self, ("set", [0] * 3), -1, name)

    def test_states_out_of_range(self):
        for wrong in (-1, 3, LEAST, GREATEST):
            for place in range(3):
                states = [1, 0, 2]
                states[place] = wrong
                check_refused(self, ("set", states), -1, "new")
            for place in range(5):
                states = [1, 0, 2, 2, 1]
                states[place] = wrong
                check_refused(self, ("set", states), -1, "chase")
                check_refused(self, ("set", states), -1, "fire")


class Kind(unittest.TestCase):
    def test_the_first_kind_is_chase(self):
        self.assertEqual(ask(("set", [1, 1, 0]), ("run", 1), ("config",)), [[0], [1], [3, 1, 1, 1]])

    def test_kinds(self):
        self.assertEqual(ask(("kind", 1), ("set", [1, 1, 0]), ("run", 1), ("config",)),
                         [[0], [0], [3], [3, 2, 2, 1]])
        self.assertEqual(ask(("kind", 1), ("kind", 0), ("set", [1, 1, 0]), ("run", 1), ("config",)),
                         [[0], [0], [0], [1], [3, 1, 1, 1]])

    def test_counts_and_time_become_0_and_the_states_stay(self):
        for first in (0, 1):
            for second in (0, 1):
                given = ask(("kind", first), ("set", [0, 1, 2]), ("run", 1), ("counts",), ("time",),
                            ("kind", second), ("counts",), ("time",), ("config",), ("told",))
                self.assertEqual(given[3:], [[3, 1, 1, 1], [1], [0], [3, 0, 0, 0], [0], [3, 1, 2, 0],
                                             [3, 3, 0, 1, 0, 2, 1, 2]])

    def test_refused(self):
        for wrong in (-1, 2, 3, LEAST, GREATEST):
            check_refused_everywhere(self, ("kind", wrong), -1)


if __name__ == "__main__":
    unittest.main()

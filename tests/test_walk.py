"""The calls lean and walk."""

import unittest

from tests.calling import GREATEST, LEAST, ask, check_refused, check_refused_everywhere, last, path, ring


class Lean(unittest.TestCase):
    def test_all_states(self):
        leans = {(0, 0): 0, (0, 1): 1, (0, 2): -1, (1, 0): -1, (1, 1): 0, (1, 2): 1, (2, 0): 1, (2, 1): -1, (2, 2): 0}
        for (a, b), lean in leans.items():
            given = ask(("graph", 2, [0, 1]), ("set", [a, b]), ("lean", 0, 1), ("lean", 1, 0))
            self.assertEqual(given[2:], [[0, lean], [0, -lean]])

    def test_the_kind_is_nothing_to_it(self):
        self.assertEqual(last(("kind", 1), ("set", [0, 1, 2]), ("lean", 1, 2)), [0, 1])

    def test_states_now(self):
        self.assertEqual(last(("graph", 2, [0, 1]), ("set", [0, 1]), ("run", 1), ("lean", 0, 1)), [0, 0])

    def test_the_last_cells_of_sixteen(self):
        self.assertEqual(last(("graph", 16, [14, 15]), ("set", [0] * 14 + [2, 1]), ("lean", 15, 14)), [0, 1])

    def test_cells_out_of_range(self):
        for wrong in (-1, 5, 16, LEAST, GREATEST):
            for call in (("lean", wrong, 0), ("lean", 0, wrong), ("lean", wrong, wrong)):
                check_refused_everywhere(self, call, -1)
        for call in (("lean", 3, 0), ("lean", 0, 3), ("lean", 3, 3), ("lean", 3, -1)):
            check_refused(self, call, -1, "new")

    def test_cells_that_do_not_touch(self):
        check_refused_everywhere(self, ("lean", 0, 0), -5)
        check_refused_everywhere(self, ("lean", 2, 2), -5)
        for name in ("chase", "fire"):
            for call in (("lean", 0, 2), ("lean", 2, 0), ("lean", 4, 3)):
                check_refused(self, call, -5, name)

    def test_one_cell(self):
        self.assertEqual(ask(("graph", 1, []), ("lean", 0, 0), ("lean", 0, 1))[1:], [[-5], [-1]])


class Walk(unittest.TestCase):
    def test_one_cell(self):
        for states in ([0, 1, 2], [2, 2, 1]):
            for cell in range(3):
                self.assertEqual(last(("set", states), ("walk", [cell])), [0, 0])
        self.assertEqual(last(("graph", 1, []), ("set", [1]), ("walk", [0])), [0, 0])

    def test_sums(self):
        begin = (("graph", 6, path(6)), ("set", [0, 1, 2, 0, 2, 2]))
        for cells, total in (([0, 1], 1), ([0, 1, 2], 2), ([0, 1, 2, 3], 3), ([0, 1, 2, 3, 4], 2),
                             ([0, 1, 2, 3, 4, 5], 2), ([5, 4, 3, 2, 1, 0], -2), ([1, 0, 1, 0], -1), ([4, 5, 4], 0)):
            self.assertEqual(last(*begin, ("walk", cells)), [0, total])

    def test_rounds(self):
        self.assertEqual(last(("set", [0, 1, 2]), ("walk", [0, 1, 2, 0])), [0, 3])
        self.assertEqual(last(("set", [0, 1, 2]), ("walk", [0, 2, 1, 0, 2, 1, 0])), [0, -6])

    def test_a_walk_of_256_cells(self):
        cells = [place % 3 for place in range(256)]
        self.assertEqual(last(("set", [0, 1, 2]), ("walk", cells)), [0, 255])
        self.assertEqual(last(("set", [1, 0, 2]), ("walk", cells)), [0, -255])
        self.assertEqual(last(("graph", 2, [1, 0]), ("set", [0, 1]), ("walk", [0, 1] * 128)), [0, 1])

    def test_a_walk_over_sixteen_cells(self):
        states = [place % 3 for place in range(16)]
        given = last(("graph", 16, ring(16)), ("set", states), ("walk", list(range(16)) + [0]))
        self.assertEqual(given, [0, 15])

    def test_lengths(self):
        for wrong in ([], [0, 1] * 128 + [0], [0, 1] * 150, [0] * 257, [0] * 300):
            check_refused_everywhere(self, ("walk", wrong), -1)

    def test_cells_out_of_range(self):
        for wrong in (-1, 5, 16, LEAST, GREATEST):
            for cells in ([wrong], [wrong, 0], [0, wrong], [0, 1, wrong], [0, 1, 0, wrong, 0, 1]):
                check_refused_everywhere(self, ("walk", cells), -1)
        check_refused(self, ("walk", [3]), -1, "new")
        check_refused(self, ("walk", [0, 1, 2, 3]), -1, "new")

    def test_no_walk(self):
        check_refused_everywhere(self, ("walk", [0, 0]), -5)
        check_refused_everywhere(self, ("walk", [0, 1, 1]), -5)
        check_refused_everywhere(self, ("walk", [0, 1] * 127 + [0, 0]), -5)
        for name in ("chase", "fire"):
            for cells in ([0, 2], [2, 0, 1], [0, 1, 4, 3], [2, 3, 2, 1]):
                check_refused(self, ("walk", cells), -5, name)

    def test_the_range_comes_before_the_touching(self):
        for name in ("chase", "fire"):
            check_refused(self, ("walk", [0, 2, 5]), -1, name)
            check_refused(self, ("walk", [0, 0, -1]), -1, name)
            check_refused(self, ("walk", [0, 2] * 128 + [0]), -1, name)


if __name__ == "__main__":
    unittest.main()

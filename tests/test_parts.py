"""The calls ball and parts."""

import unittest

from tests.calling import GREATEST, LEAST, ask, check_refused, check_refused_everywhere, complete, last, path, ring

# Parts of the cells 0 1 4, of 2 alone, and of 3 5.
SEVERAL = [5, 3, 1, 4, 4, 0]


def ball(n, edges, v, k):
    return last(("graph", n, edges), ("ball", v, k))


class Ball(unittest.TestCase):
    def test_no_steps(self):
        for v in range(3):
            self.assertEqual(ask(("ball", v, 0)), [[1, v]])

    def test_one_step(self):
        self.assertEqual(ask(("ball", 1, 1)), [[3, 0, 1, 2]])
        self.assertEqual(ball(6, path(6), 3, 1), [3, 2, 3, 4])
        self.assertEqual(ball(6, path(6), 5, 1), [2, 4, 5])

    def test_the_least_first(self):
        self.assertEqual(ball(5, [4, 3, 3, 1, 4, 0], 4, 1), [3, 0, 3, 4])
        self.assertEqual(ball(5, [4, 3, 3, 1, 4, 0], 4, 2), [4, 0, 1, 3, 4])

    def test_as_far_as_the_steps_go(self):
        for k in range(17):
            reached = list(range(min(k, 15) + 1))
            self.assertEqual(ball(16, path(16), 0, k), [len(reached)] + reached)
            reached = sorted({step % 16 for step in range(-k, k + 1)})
            self.assertEqual(ball(16, ring(16), 0, k), [len(reached)] + reached)

    def test_sixteen_steps(self):
        self.assertEqual(ask(("ball", 2, 16)), [[3, 0, 1, 2]])
        self.assertEqual(ball(16, complete(16), 15, 16), [16] + list(range(16)))
        self.assertEqual(ball(1, [], 0, 16), [1, 0])

    def test_cells_of_other_parts(self):
        for k in (2, 3, 16):
            self.assertEqual(ball(6, SEVERAL, 0, k), [3, 0, 1, 4])
            self.assertEqual(ball(6, SEVERAL, 2, k), [1, 2])
            self.assertEqual(ball(6, SEVERAL, 5, k), [2, 3, 5])
        self.assertEqual(ball(6, SEVERAL, 0, 1), [2, 0, 4])

    def test_states_and_kind_are_nothing_to_it(self):
        self.assertEqual(last(("kind", 1), ("set", [0, 1, 2]), ("ball", 0, 1)), [3, 0, 1, 2])

    def test_out_of_range(self):
        for wrong in (-1, 5, 16, LEAST, GREATEST):
            check_refused_everywhere(self, ("ball", wrong, 1), -1)
        for wrong in (-1, 17, LEAST, GREATEST):
            check_refused_everywhere(self, ("ball", 0, wrong), -1)
            check_refused_everywhere(self, ("ball", wrong, wrong), -1)
        check_refused(self, ("ball", 3, 0), -1, "new")


class Parts(unittest.TestCase):
    def parts(self, n, edges):
        return last(("graph", n, edges), ("parts",))

    def test_one_part(self):
        self.assertEqual(ask(("parts",)), [[3, 0, 0, 0]])
        self.assertEqual(self.parts(1, []), [1, 0])
        self.assertEqual(self.parts(16, path(16)), [16] + [0] * 16)
        self.assertEqual(self.parts(16, complete(16)), [16] + [0] * 16)
        self.assertEqual(self.parts(4, [3, 2, 2, 1, 3, 0]), [4, 0, 0, 0, 0])

    def test_no_edges(self):
        self.assertEqual(self.parts(4, []), [4, 0, 1, 2, 3])
        self.assertEqual(self.parts(16, []), [16] + list(range(16)))

    def test_several_parts(self):
        self.assertEqual(self.parts(6, SEVERAL), [6, 0, 0, 2, 3, 0, 3])
        self.assertEqual(self.parts(6, [5, 4, 4, 3, 3, 5, 2, 1]), [6, 0, 1, 1, 3, 3, 3])
        self.assertEqual(self.parts(16, [15, 1, 14, 0, 1, 14, 13, 12]), [16, 0, 0] + list(range(2, 13)) + [12, 0, 0])

    def test_states_are_nothing_to_it(self):
        self.assertEqual(last(("kind", 1), ("set", [2, 1, 2]), ("run", 1), ("parts",)), [3, 0, 0, 0])


if __name__ == "__main__":
    unittest.main()

"""The calls windings, ring and lives."""

import unittest

from graphwaves.forest import ring_of
from tests.calling import GREATEST, LEAST, ask, check_refused, check_refused_everywhere, complete, last, path, ring

# Two triangles, 0 1 2 and 4 5 6, and the cell 3 alone.
TRIANGLES = [0, 1, 1, 2, 2, 0, 4, 5, 6, 5, 4, 6]


def windings(n, edges, states):
    return last(("graph", n, edges), ("set", states), ("windings",))


class Windings(unittest.TestCase):
    def test_a_new_object(self):
        self.assertEqual(ask(("windings",)), [[1, 1, 2, 0]])

    def test_the_example(self):
        self.assertEqual(last(("set", [0, 1, 2]), ("windings",)), [1, 1, 2, 1])

    def test_below_0(self):
        self.assertEqual(last(("set", [0, 2, 1]), ("windings",)), [1, 1, 2, -1])

    def test_no_chord(self):
        self.assertEqual(windings(1, [], [2]), [0])
        self.assertEqual(windings(4, [], [0, 1, 2, 0]), [0])
        self.assertEqual(windings(6, path(6), [0, 1, 2, 0, 1, 2]), [0])

    def test_beyond_one(self):
        self.assertEqual(windings(6, ring(6), [0, 1, 2, 0, 1, 2]), [1, 3, 4, 2])
        self.assertEqual(windings(15, ring(15), [-place % 3 for place in range(15)]), [1, 7, 8, -5])

    def test_several_chords(self):
        # The forest's edges are 0-1, 0-2 and 0-3.
        self.assertEqual(windings(4, complete(4), [0, 1, 2, 0]), [3, 1, 2, 1, 1, 3, 0, 2, 3, 0])
        self.assertEqual(windings(4, complete(4), [0, 2, 1, 1]), [3, 1, 2, -1, 1, 3, -1, 2, 3, 0])
        self.assertEqual(windings(4, complete(4), [0, 1, 2, 1]), [3, 1, 2, 1, 1, 3, 0, 2, 3, -1])

    def test_in_the_order_of_told(self):
        edges = list(reversed(complete(5)))
        self.assertEqual(windings(5, edges, [0] * 5), [6, 1, 2, 0, 1, 3, 0, 1, 4, 0, 2, 3, 0, 2, 4, 0, 3, 4, 0])

    def test_several_parts(self):
        self.assertEqual(windings(7, TRIANGLES, [1, 1, 2, 0, 1, 0, 2]), [2, 1, 2, 0, 5, 6, -1])
        self.assertEqual(windings(7, TRIANGLES, [2, 0, 1, 0, 1, 1, 2]), [2, 1, 2, 1, 5, 6, 0])

    def test_sixteen_cells(self):
        given = windings(16, complete(16), [0] * 13 + [1, 1, 2])
        self.assertEqual(given[0], 105)
        self.assertEqual(len(given), 1 + 3 * 105)
        turning = [given[k:k + 3] for k in range(1, len(given), 3) if given[k + 2] != 0]
        self.assertEqual(turning, [[13, 15, 1], [14, 15, 1]])

    def test_a_fire_has_the_same_windings(self):
        self.assertEqual(last(("kind", 1), ("set", [0, 2, 1]), ("windings",)), [1, 1, 2, -1])

    def test_runs_keep_them(self):
        for kind in (0, 1):
            begin = (("kind", kind), ("graph", 4, complete(4)), ("set", [0, 1, 2, 1]))
            for t in range(8):
                self.assertEqual(last(*begin, ("run", t), ("windings",)), [3, 1, 2, 1, 1, 3, 0, 2, 3, -1])


class Ring(unittest.TestCase):
    def ring_told(self, n, edges, a, b):
        """The ring as it is answered, in both orders of the cells alike, and as long as its first number says."""
        given = ask(("graph", n, edges), ("ring", a, b), ("ring", b, a))
        self.assertEqual(given[1], given[2])
        told = given[1]
        self.assertEqual(told[0], len(told) - 1)
        self.assertEqual(told[1:3], sorted((a, b)))
        round_again = told[1:] + told[1:2]
        self.assertEqual(last(("graph", n, edges), ("walk", round_again)), [0, 0])
        return told

    def test_the_example(self):
        self.assertEqual(ask(("ring", 1, 2), ("ring", 2, 1)), [[3, 1, 2, 0], [3, 1, 2, 0]])

    def test_ways_that_meet_at_the_root(self):
        self.assertEqual(self.ring_told(6, ring(6), 3, 4), [6, 3, 4, 5, 0, 1, 2])
        self.assertEqual(self.ring_told(5, ring(5), 2, 3), [5, 2, 3, 4, 0, 1])

    def test_ways_that_meet_below_the_root(self):
        self.assertEqual(self.ring_told(4, [0, 1, 1, 2, 1, 3, 2, 3], 2, 3), [3, 2, 3, 1])
        # The root 0, below it 2, and from there 2-3-5 and 2-4-6.
        self.assertEqual(self.ring_told(7, [0, 2, 2, 3, 3, 5, 2, 4, 4, 6, 5, 6, 0, 1], 5, 6), [5, 5, 6, 4, 2, 3])

    def test_the_lesser_cell_nearer_to_the_root(self):
        self.assertEqual(self.ring_told(4, [0, 1, 0, 2, 1, 3, 2, 3], 2, 3), [4, 2, 3, 1, 0])

    def test_the_greater_cell_nearer_to_the_root(self):
        self.assertEqual(self.ring_told(4, [0, 2, 0, 3, 2, 1, 3, 1], 1, 3), [4, 1, 3, 0, 2])

    def test_a_way_up_that_comes_to_the_lesser_cell_itself(self):
        # No chord of a forest by fewest steps is like that: so the parents are made up.
        self.assertEqual(ring_of((0, 2), [0, 0, 1]), [0, 2, 1])
        self.assertEqual(ring_of((1, 4), [0, 0, 1, 2, 3]), [1, 4, 3, 2])

    def test_a_way_up_that_begins_above_the_lesser_cell(self):
        self.assertEqual(ring_of((1, 2), [0, 3, 0, 2]), [1, 2, 3])

    def test_another_part_than_that_of_0(self):
        self.assertEqual(self.ring_told(7, TRIANGLES, 6, 5), [3, 5, 6, 4])

    def test_sixteen_cells(self):
        self.assertEqual(self.ring_told(16, ring(16), 8, 9),
                         [16, 8, 9, 10, 11, 12, 13, 14, 15, 0, 1, 2, 3, 4, 5, 6, 7])
        self.assertEqual(self.ring_told(16, complete(16), 15, 7), [3, 7, 15, 0])

    def test_states_and_kind_are_nothing_to_it(self):
        self.assertEqual(last(("kind", 1), ("set", [0, 1, 2]), ("run", 2), ("ring", 2, 1)), [3, 1, 2, 0])

    def test_cells_out_of_range(self):
        for wrong in (-1, 5, 16, LEAST, GREATEST):
            for call in (("ring", wrong, 1), ("ring", 1, wrong), ("ring", wrong, wrong)):
                check_refused_everywhere(self, call, -1)
        for call in (("ring", 3, 1), ("ring", 1, 3), ("ring", 3, 3)):
            check_refused(self, call, -1, "new")

    def test_no_chord(self):
        for call in (("ring", 0, 1), ("ring", 1, 0), ("ring", 0, 0), ("ring", 1, 1), ("ring", 2, 2)):
            check_refused_everywhere(self, call, -5)
        for call in (("ring", 0, 2), ("ring", 2, 0)):
            check_refused(self, call, -5, "new")
        for name in ("chase", "fire"):
            for call in (("ring", 1, 2), ("ring", 4, 2), ("ring", 2, 3), ("ring", 3, 2), ("ring", 0, 4)):
                check_refused(self, call, -5, name)
        self.assertEqual(ask(("graph", 1, []), ("ring", 0, 0), ("ring", 0, 1))[1:], [[-5], [-1]])


class Lives(unittest.TestCase):
    def lives(self, n, edges, states):
        given = [last(("kind", kind), ("graph", n, edges), ("set", states), ("lives",)) for kind in (0, 1)]
        self.assertEqual(given[0], given[1])
        return given[0]

    def test_triangles(self):
        self.assertEqual(ask(("lives",)), [[0]])
        for states in ([0, 1, 2], [0, 2, 1], [2, 0, 1]):
            self.assertEqual(self.lives(3, complete(3), states), [1])
        for states in ([0, 1, 1], [2, 2, 0], [1, 1, 1]):
            self.assertEqual(self.lives(3, complete(3), states), [0])

    def test_no_chord(self):
        self.assertEqual(self.lives(1, [], [1]), [0])
        self.assertEqual(self.lives(3, [], [0, 1, 2]), [0])
        self.assertEqual(self.lives(6, path(6), [0, 1, 2, 0, 1, 2]), [0])

    def test_chords_without_winding(self):
        self.assertEqual(self.lives(4, ring(4), [0, 1, 2, 1]), [0])
        self.assertEqual(self.lives(6, ring(6), [0, 1, 2, 0, 2, 1]), [0])

    def test_some_of_several_chords(self):
        self.assertEqual(self.lives(4, complete(4), [0, 1, 2, 0]), [1])
        self.assertEqual(self.lives(5, complete(5), [0, 0, 0, 1, 2]), [1])

    def test_windings_that_add_up_to_0(self):
        self.assertEqual(self.lives(4, complete(4), [0, 1, 2, 1]), [1])

    def test_some_of_several_parts(self):
        self.assertEqual(self.lives(7, TRIANGLES, [1, 1, 2, 0, 1, 0, 2]), [1])
        self.assertEqual(self.lives(7, TRIANGLES, [2, 0, 1, 0, 1, 1, 2]), [1])
        self.assertEqual(self.lives(7, TRIANGLES, [1, 0, 1, 0, 1, 1, 2]), [0])

    def test_sixteen_cells(self):
        self.assertEqual(self.lives(16, complete(16), [0] * 15 + [1]), [0])
        self.assertEqual(self.lives(16, complete(16), [0] * 14 + [1, 2]), [1])


if __name__ == "__main__":
    unittest.main()

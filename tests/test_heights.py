"""The call heights."""

import unittest

from tests.calling import ask, complete, last, path, ring


def heights(n, edges, states):
    return last(("graph", n, edges), ("set", states), ("heights",))


class WithoutWinding(unittest.TestCase):
    def test_a_new_object(self):
        self.assertEqual(ask(("heights",)), [[1, 0, 0, 0]])

    def test_the_example(self):
        self.assertEqual(last(("set", [0, 1, 1]), ("heights",)), [1, 0, 1, 1])

    def test_a_height_begins_with_the_state_of_the_root(self):
        self.assertEqual(heights(1, [], [2]), [1, 2])
        self.assertEqual(heights(2, [0, 1], [2, 0]), [1, 2, 3])
        self.assertEqual(heights(2, [0, 1], [2, 1]), [1, 2, 1])
        self.assertEqual(heights(2, [0, 1], [1, 0]), [1, 1, 0])

    def test_heights_beyond_the_states(self):
        self.assertEqual(heights(6, path(6), [1, 2, 0, 1, 2, 0]), [1, 1, 2, 3, 4, 5, 6])
        self.assertEqual(heights(6, path(6), [1, 0, 2, 1, 0, 2]), [1, 1, 0, -1, -2, -3, -4])

    def test_without_edges_each_cell_is_a_root(self):
        self.assertEqual(heights(4, [], [2, 0, 1, 2]), [1, 2, 0, 1, 2])

    def test_several_parts(self):
        self.assertEqual(heights(6, [5, 3, 1, 4, 4, 0], [2, 2, 1, 2, 0, 1]), [1, 2, 2, 1, 2, 3, 1])

    def test_sixteen_cells(self):
        states = [place % 3 for place in range(16)]
        self.assertEqual(heights(16, path(16), states), [1] + list(range(16)))
        self.assertEqual(heights(16, [], states), [1] + states)
        self.assertEqual(heights(16, complete(16), [1] * 15 + [0]), [1] + [1] * 15 + [0])

    def test_a_chord_without_winding(self):
        self.assertEqual(heights(4, ring(4), [0, 1, 2, 1]), [1, 0, 1, 2, 1])

    def test_a_fire_has_the_same_heights(self):
        self.assertEqual(last(("kind", 1), ("set", [2, 0, 0]), ("heights",)), [1, 2, 3, 3])


class WithWinding(unittest.TestCase):
    def test_a_triangle(self):
        self.assertEqual(last(("set", [0, 1, 2]), ("heights",)), [0, 1, 2, 1])
        self.assertEqual(last(("set", [0, 2, 1]), ("heights",)), [0, 1, 2, -1])

    def test_every_turn_of_a_triangle(self):
        for states, winding in (([1, 2, 0], 1), ([2, 0, 1], 1), ([2, 1, 0], -1), ([1, 0, 2], -1)):
            self.assertEqual(last(("set", states), ("heights",)), [0, 1, 2, winding])

    def test_windings_beyond_one(self):
        # The forest goes both ways round from cell 0; the chord is where they meet.
        self.assertEqual(heights(6, ring(6), [0, 1, 2, 0, 1, 2]), [0, 3, 4, 2])
        self.assertEqual(heights(15, ring(15), [place % 3 for place in range(15)]), [0, 7, 8, 5])
        self.assertEqual(heights(15, ring(15), [-place % 3 for place in range(15)]), [0, 7, 8, -5])

    def test_parents_where_several_neighbours_are_nearer(self):
        # Cell 4 touches 1, 2 and 3, all one step from the root: its parent is 1, and 2-4 and 3-4 are chords.
        edges = [0, 3, 3, 4, 0, 2, 2, 4, 0, 1, 1, 4]
        self.assertEqual(heights(5, edges, [0, 1, 2, 2, 2]), [0, 2, 4, -1])
        self.assertEqual(heights(5, edges, [0, 1, 1, 2, 2]), [0, 3, 4, -1])
        self.assertEqual(heights(5, edges, [0, 2, 1, 1, 2]), [0, 2, 4, 1])

    def test_the_parent_is_the_least_and_not_the_first_found(self):
        # From 0 first come 1 and 2, behind 1 comes 5, behind 2 comes 3; 4 touches 3 and 5, and 3 is the lesser.
        edges = [0, 1, 0, 2, 1, 5, 2, 3, 3, 4, 4, 5]
        self.assertEqual(heights(6, edges, [0, 0, 2, 1, 0, 0]), [0, 4, 5, -1])
        self.assertEqual(heights(6, edges, [0, 1, 0, 0, 0, 2]), [0, 4, 5, -1])

    def test_a_parent_is_nearer_and_not_only_less(self):
        # Cell 3 touches the root; 1 and 2 are farther away than it, and less.
        edges = [0, 3, 3, 2, 2, 1, 1, 3]
        self.assertEqual(heights(4, edges, [0, 0, 1, 2]), [0, 1, 2, 1])
        self.assertEqual(heights(4, edges, [0, 1, 1, 2]), [1, 0, -2, -2, -1])

    def test_the_first_chord_as_told_tells_edges(self):
        # Chords of all edges between 5 cells: 1-2, 1-3, 1-4, 2-3, 2-4, 3-4.
        edges = list(reversed(complete(5)))
        self.assertEqual(heights(5, edges, [0, 0, 0, 1, 2]), [0, 3, 4, 1])
        self.assertEqual(heights(5, edges, [0, 0, 1, 2, 2]), [0, 2, 3, 1])
        self.assertEqual(heights(5, edges, [0, 1, 0, 0, 2]), [0, 1, 4, 1])
        self.assertEqual(heights(5, edges, [0, 2, 0, 1, 1]), [0, 1, 3, -1])
        self.assertEqual(heights(5, edges, [0, 0, 1, 0, 2]), [0, 2, 4, 1])

    def test_a_winding_in_a_later_part(self):
        self.assertEqual(heights(7, [0, 1, 1, 2, 2, 0, 4, 5, 6, 5, 4, 6], [1, 1, 2, 0, 1, 0, 2]), [0, 5, 6, -1])

    def test_sixteen_cells(self):
        states = [0] * 13 + [1, 1, 2]
        self.assertEqual(heights(16, complete(16), states), [0, 13, 15, 1])
        self.assertEqual(heights(16, ring(16), [0] + [place % 3 for place in range(15)]), [0, 8, 9, 5])

    def test_a_run_keeps_the_windings(self):
        begin = (("graph", 9, ring(9)), ("set", [0, 1, 2, 0, 1, 2, 2, 2, 2]))
        for t in range(12):
            self.assertEqual(last(*begin, ("run", t), ("heights",))[0], 0)
            self.assertEqual(last(*begin, ("run", t), ("heights",))[3], 2)


if __name__ == "__main__":
    unittest.main()

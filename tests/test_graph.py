"""The calls graph and told."""

import unittest

from tests.calling import GREATEST, LEAST, ask, check_refused_everywhere, complete, last, path, ring


class Graph(unittest.TestCase):
    def test_a_new_object_is_a_triangle(self):
        self.assertEqual(ask(("told",)), [[3, 3, 0, 1, 0, 2, 1, 2]])

    def test_edges_are_told_in_order_whichever_way_they_came(self):
        given = ask(("graph", 5, [4, 2, 1, 0, 3, 0, 4, 0, 2, 3]), ("told",))
        self.assertEqual(given, [[0], [5, 5, 0, 1, 0, 3, 0, 4, 2, 3, 2, 4]])

    def test_order_of_two_digit_cells_is_by_number(self):
        self.assertEqual(last(("graph", 16, [10, 2, 15, 10, 2, 9, 9, 10]), ("told",)),
                         [16, 4, 2, 9, 2, 10, 9, 10, 10, 15])

    def test_one_cell(self):
        given = ask(("graph", 1, []), ("told",), ("config",), ("counts",), ("heights",))
        self.assertEqual(given, [[0], [1, 0], [1, 0], [1, 0], [1, 0]])

    def test_two_cells(self):
        self.assertEqual(ask(("graph", 2, [1, 0]), ("told",)), [[0], [2, 1, 0, 1]])

    def test_sixteen_cells_without_edges(self):
        given = ask(("graph", 16, []), ("told",), ("config",))
        self.assertEqual(given, [[0], [16, 0], [16] + [0] * 16])

    def test_sixteen_cells_with_all_edges(self):
        edges = complete(16)
        self.assertEqual(len(edges), 240)
        self.assertEqual(last(("graph", 16, edges), ("told",)), [16, 120] + edges)
        self.assertEqual(last(("graph", 16, list(reversed(edges))), ("told",)), [16, 120] + edges)

    def test_several_parts(self):
        self.assertEqual(last(("graph", 7, [6, 3, 1, 4]), ("told",)), [7, 2, 1, 4, 3, 6])

    def test_a_graph_replaces_the_one_before(self):
        given = ask(("graph", 6, ring(6)), ("graph", 4, path(4)), ("told",), ("graph", 9, [8, 0]), ("told",))
        self.assertEqual(given, [[0], [0], [4, 3, 0, 1, 1, 2, 2, 3], [0], [9, 1, 0, 8]])

    def test_states_counts_and_time_become_0(self):
        given = ask(("set", [0, 1, 2]), ("run", 5), ("graph", 3, [0, 1, 1, 2, 0, 2]),
                    ("config",), ("counts",), ("time",))
        self.assertEqual(given[1:], [[15], [0], [3, 0, 0, 0], [3, 0, 0, 0], [0]])

    def test_sizes_change_with_the_graph(self):
        given = ask(("set", [1, 2, 0]), ("run", 1), ("graph", 5, []), ("config",), ("counts",),
                    ("set", [2, 2, 2, 2, 2]), ("graph", 2, []), ("config",), ("counts",))
        self.assertEqual(given[3:5], [[5, 0, 0, 0, 0, 0], [5, 0, 0, 0, 0, 0]])
        self.assertEqual(given[7:], [[2, 0, 0], [2, 0, 0]])

    def test_the_kind_stays(self):
        self.assertEqual(last(("kind", 1), ("graph", 1, []), ("set", [1]), ("run", 3)), [2])
        self.assertEqual(last(("graph", 1, []), ("set", [1]), ("run", 3)), [0])
        self.assertEqual(last(("kind", 1), ("kind", 0), ("graph", 1, []), ("set", [1]), ("run", 3)), [0])


class GraphRefused(unittest.TestCase):
    def refused(self, n, edges):
        check_refused_everywhere(self, ("graph", n, edges), -1)

    def test_how_many_cells(self):
        for n in (0, 17, -1, LEAST, GREATEST):
            self.refused(n, [])
            self.refused(n, [0, 1])
            self.refused(n, [0])

    def test_cells_out_of_range(self):
        for wrong in (-1, 4, 5, 16, LEAST, GREATEST):
            self.refused(4, [0, wrong])
            self.refused(4, [wrong, 0])
            self.refused(4, [0, 1, 2, wrong])
            self.refused(4, [wrong, wrong])
        self.refused(1, [0, 1])
        self.refused(16, [15, 16])

    def test_an_odd_length(self):
        self.refused(4, [0])
        self.refused(4, [0, 1, 2])
        self.refused(16, complete(16) + [0])
        self.refused(16, [0] * 299)

    def test_a_long_list(self):
        self.refused(16, complete(16) + [0, 1])
        self.refused(16, [0, 1] * 150)
        self.refused(16, [GREATEST] * 300)

    def test_an_edge_between_a_cell_and_itself(self):
        self.refused(1, [0, 0])
        self.refused(4, [0, 1, 3, 3])
        self.refused(4, [2, 2, 0, 1])

    def test_an_edge_told_twice(self):
        self.refused(4, [0, 1, 0, 1])
        self.refused(4, [0, 1, 1, 0])
        self.refused(4, [3, 2, 0, 1, 3, 2])
        self.refused(4, [3, 2, 0, 1, 1, 2, 2, 3])


if __name__ == "__main__":
    unittest.main()

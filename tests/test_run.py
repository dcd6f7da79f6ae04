"""The calls run, counts and time."""

import unittest

from tests.calling import GREATEST, LEAST, ask, check_refused_everywhere, last, path, ring


class Chase(unittest.TestCase):
    def test_all_cells_change_at_once(self):
        # Cell by cell, cell 1 would see cell 0 already gone on.
        given = ask(("graph", 3, path(3)), ("set", [0, 1, 2]), ("run", 1), ("config",), ("counts",))
        self.assertEqual(given[2:], [[2], [3, 1, 2, 2], [3, 1, 1, 0]])

    def test_the_way_to_rest(self):
        given = ask(("graph", 3, path(3)), ("set", [0, 1, 2]), ("run", 1), ("run", 1), ("config",), ("run", 1),
                    ("config",), ("counts",), ("time",))
        self.assertEqual(given[2:], [[2], [1], [3, 2, 2, 2], [0], [3, 2, 2, 2], [3, 2, 1, 0], [3]])

    def test_each_state_goes_on_to_the_next(self):
        for states, ahead in (([0, 1], [1, 1]), ([1, 2], [2, 2]), ([2, 0], [0, 0]),
                              ([1, 0], [1, 1]), ([2, 1], [2, 2]), ([0, 2], [0, 0]), ([1, 1], [1, 1])):
            self.assertEqual(last(("graph", 2, [0, 1]), ("set", states), ("run", 1), ("config",)), [2] + ahead)

    def test_a_cell_goes_on_once_whatever_many_neighbours_call(self):
        given = ask(("graph", 4, [0, 1, 0, 2, 0, 3]), ("set", [0, 1, 1, 1]), ("run", 1), ("config",))
        self.assertEqual(given[2:], [[1], [4, 1, 1, 1, 1]])

    def test_the_neighbour_may_be_any(self):
        for place in range(1, 5):
            states = [2, 2, 2, 2, 2]
            states[place] = 0
            given = ask(("graph", 5, [0, 1, 0, 2, 0, 3, 0, 4]), ("set", states), ("run", 1), ("counts",))
            self.assertEqual(given[2:], [[1], [5, 1, 0, 0, 0, 0]])

    def test_round_for_ever(self):
        given = ask(("set", [0, 1, 2]), ("run", 1000), ("config",), ("counts",), ("time",))
        self.assertEqual(given[1:], [[3000], [3, 1, 2, 0], [3, 1000, 1000, 1000], [1000]])

    def test_cells_that_do_not_touch_do_not_move_one_another(self):
        given = ask(("graph", 6, [0, 1, 2, 3]), ("set", [0, 1, 1, 0, 2, 0]), ("run", 9), ("config",), ("counts",))
        self.assertEqual(given[2:], [[2], [6, 1, 1, 1, 1, 2, 0], [6, 1, 0, 0, 1, 0, 0]])

    def test_without_edges_and_with_one_cell(self):
        self.assertEqual(ask(("graph", 4, []), ("set", [0, 1, 2, 1]), ("run", 1000), ("config",), ("time",))[2:],
                         [[0], [4, 0, 1, 2, 1], [1000]])
        self.assertEqual(ask(("graph", 1, []), ("set", [2]), ("run", 5), ("config",), ("counts",))[2:],
                         [[0], [1, 2], [1, 0]])

    def test_sixteen_cells(self):
        states = [0] + [1] * 15
        given = ask(("graph", 16, path(16)), ("set", list(reversed(states))), ("run", 1), ("counts",))
        self.assertEqual(given[2:], [[1], [16] + [0] * 15 + [1]])
        given = ask(("graph", 16, path(16)), ("set", [1] + [0] * 15), ("run", 4), ("config",),
                    ("run", 1000), ("config",))
        self.assertEqual(given[2:], [[4], [16] + [1] * 5 + [0] * 11, [11], [16] + [1] * 16])


class Fire(unittest.TestCase):
    def test_burning_cools_cool_rests_resting_burns_beside_burning(self):
        given = ask(("kind", 1), ("graph", 4, path(4)), ("set", [0, 1, 2, 0]), ("run", 1), ("config",), ("counts",))
        self.assertEqual(given[3:], [[3], [4, 1, 2, 0, 0], [4, 1, 1, 1, 0]])

    def test_a_resting_cell_does_not_burn_beside_a_cool_one(self):
        given = ask(("kind", 1), ("graph", 2, [0, 1]), ("set", [0, 2]), ("run", 1), ("config",))
        self.assertEqual(given[3:], [[1], [2, 0, 0]])

    def test_fire_runs_along_a_path_and_dies(self):
        given = ask(("kind", 1), ("graph", 4, path(4)), ("set", [1, 0, 0, 0]), ("run", 2), ("config",),
                    ("run", 10), ("config",), ("counts",), ("time",))
        self.assertEqual(given[3:], [[5], [4, 0, 2, 1, 0], [6], [4, 0, 0, 0, 0], [4, 2, 3, 3, 3], [12]])

    def test_fire_goes_round(self):
        given = ask(("kind", 1), ("graph", 4, ring(4)), ("set", [1, 0, 0, 2]), ("run", 4), ("config",), ("counts",))
        self.assertEqual(given[3:], [[12], [4, 1, 0, 0, 2], [4, 3, 3, 3, 3]])

    def test_a_thousand_generations(self):
        given = ask(("kind", 1), ("graph", 4, ring(4)), ("set", [1, 0, 0, 2]), ("run", 1000), ("config",), ("counts",))
        self.assertEqual(given[3:], [[3000], [4, 1, 0, 0, 2], [4, 750, 750, 750, 750]])

    def test_one_cell(self):
        given = ask(("kind", 1), ("graph", 1, []), ("set", [1]), ("run", 1), ("config",), ("run", 5), ("config",),
                    ("counts",), ("time",))
        self.assertEqual(given[3:], [[1], [1, 2], [1], [1, 0], [1, 2], [6]])


class Runs(unittest.TestCase):
    def test_a_new_object_has_run_nothing(self):
        self.assertEqual(ask(("counts",), ("time",)), [[3, 0, 0, 0], [0]])

    def test_no_generation(self):
        given = ask(("set", [0, 1, 2]), ("run", 0), ("config",), ("counts",), ("time",))
        self.assertEqual(given[1:], [[0], [3, 0, 1, 2], [3, 0, 0, 0], [0]])

    def test_no_generation_keeps_what_was_counted(self):
        given = ask(("set", [0, 1, 2]), ("run", 2), ("run", 0), ("counts",), ("time",))
        self.assertEqual(given[2:], [[0], [3, 2, 2, 2], [2]])

    def test_time_and_counts_grow(self):
        given = ask(("set", [0, 1, 2]), ("run", 2), ("run", 1000), ("run", 1000), ("counts",), ("time",))
        self.assertEqual(given[1:], [[6], [3000], [3000], [3, 2002, 2002, 2002], [2002]])

    def test_time_grows_also_at_rest(self):
        given = ask(("run", 1000), ("time",), ("run", 1), ("time",), ("counts",))
        self.assertEqual(given, [[0], [1000], [0], [1001], [3, 0, 0, 0]])

    def test_one_run_is_like_many(self):
        begin = (("graph", 7, ring(7) + [0, 3]), ("set", [0, 1, 2, 0, 0, 2, 1]))
        looks = (("config",), ("counts",), ("time",))
        for kind in (0, 1):
            whole = ask(("kind", kind), *begin, ("run", 23), *looks)
            parts = ask(("kind", kind), *begin, *[("run", 1)] * 23, *looks)
            self.assertEqual(whole[-3:], parts[-3:])
            self.assertEqual(whole[3], [sum(part[0] for part in parts[3:26])])

    def test_what_is_asked_changes_nothing(self):
        asks = (("told",), ("config",), ("counts",), ("time",), ("lean", 0, 1), ("walk", [0, 1, 2]), ("heights",))
        begin = (("set", [0, 1, 1]), ("run", 1))
        self.assertEqual(ask(*begin, *asks)[2:], ask(*begin, *asks, *asks)[9:])

    def test_refused(self):
        for wrong in (-1, 1001, LEAST, GREATEST):
            check_refused_everywhere(self, ("run", wrong), -1)


if __name__ == "__main__":
    unittest.main()

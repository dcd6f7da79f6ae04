"""The calls end and course."""

import unittest

from tests.calling import (
    GREATEST, LEAST, LOOKS, ask, check_refused, check_refused_everywhere, complete, last, path, ring,
)


def end(kind, n, edges, states):
    return last(("kind", kind), ("graph", n, edges), ("set", states), ("end",))


def course(kind, n, edges, states, most):
    return last(("kind", kind), ("graph", n, edges), ("set", states), ("course", most))


# A ring of 4, a ring of 5 and a ring of 7 cells, with a wave in each that goes round once in as many generations.
THREE_RINGS = [0, 1, 1, 2, 2, 3, 3, 0, 4, 5, 5, 6, 6, 7, 7, 8, 8, 4,
               9, 10, 10, 11, 11, 12, 12, 13, 13, 14, 14, 15, 15, 9]
THREE_WAVES = [0, 1, 2, 0] + [0, 1, 2, 0, 0] + [0, 1, 2, 0, 0, 0, 0]


def check_nothing_changes(test, call):
    """All is the same behind the call as without it, of both kinds, after runs and before."""
    for kind in (0, 1):
        for states in ([0, 1, 1, 2, 2], [0, 1, 2, 1, 0], [0] * 5):
            for before in ((), (("run", 1),), (("run", 7),)):
                begin = (("kind", kind), ("graph", 5, [4, 1, 1, 0, 2, 3, 0, 4]), ("set", states)) + before
                plain = ask(*begin, *LOOKS)[len(begin):]
                test.assertEqual(ask(*begin, call, *LOOKS)[len(begin) + 1:], plain)
                test.assertEqual(ask(*begin, call, call, *LOOKS)[len(begin) + 2:], plain)


class End(unittest.TestCase):
    def test_the_example(self):
        given = ask(("set", [0, 1, 1]), ("end",), ("kind", 1), ("end",))
        self.assertEqual(given, [[0], [1, 1, 0, 0], [0], [3, 3, 2, 2]])

    def test_ended_already(self):
        self.assertEqual(ask(("end",)), [[0, 0, 0, 0]])
        self.assertEqual(last(("kind", 1), ("end",)), [0, 0, 0, 0])
        self.assertEqual(last(("set", [2, 2, 2]), ("end",)), [0, 0, 0, 0])
        self.assertEqual(last(("set", [0, 1, 1]), ("run", 5), ("end",)), [0, 0, 0, 0])
        self.assertEqual(last(("kind", 1), ("set", [0, 1, 1]), ("run", 3), ("end",)), [0, 0, 0, 0])

    def test_from_now_on(self):
        self.assertEqual(last(("kind", 1), ("set", [0, 1, 1]), ("run", 2), ("end",)), [1, 1, 0, 0])

    def test_chase_on_a_path(self):
        self.assertEqual(end(0, 6, path(6), [0, 1, 2, 0, 1, 2]), [5, 5, 4, 3, 2, 1, 0])
        self.assertEqual(end(0, 6, path(6), [2, 1, 0, 2, 1, 0]), [5, 0, 1, 2, 3, 4, 5])
        self.assertEqual(end(0, 3, path(3), [1, 1, 1]), [0, 0, 0, 0])

    def test_fire_on_a_path(self):
        self.assertEqual(end(1, 3, path(3), [1, 0, 0]), [4, 2, 3, 3])
        self.assertEqual(end(1, 2, path(2), [0, 2]), [1, 0, 1])

    def test_several_parts(self):
        self.assertEqual(end(0, 5, [0, 1, 3, 4], [0, 1, 2, 1, 0]), [1, 1, 0, 0, 0, 1])
        self.assertEqual(end(0, 5, [0, 1, 1, 2, 3, 4], [0, 1, 2, 0, 1]), [2, 2, 1, 0, 1, 0])
        self.assertEqual(end(1, 5, [0, 1, 3, 4], [0, 2, 1, 0, 0]), [2, 0, 1, 2, 0, 0])

    def test_no_edges(self):
        self.assertEqual(end(0, 4, [], [0, 1, 2, 1]), [0, 0, 0, 0, 0])
        self.assertEqual(end(1, 4, [], [0, 1, 2, 1]), [2, 0, 2, 1, 2])
        self.assertEqual(end(1, 1, [], [2]), [1, 1])
        self.assertEqual(end(1, 3, [], [0, 0, 0]), [0, 0, 0, 0])

    def test_chords_without_winding(self):
        self.assertEqual(end(0, 4, ring(4), [0, 1, 2, 1]), [2, 2, 1, 0, 1])

    def test_sixteen_cells(self):
        states = [place % 3 for place in range(16)]
        self.assertEqual(end(0, 16, path(16), states), [15] + list(range(15, -1, -1)))
        self.assertEqual(end(0, 16, complete(16), [0] * 15 + [1]), [1] + [1] * 15 + [0])
        # The fire runs down the path, a cell in each generation, and two more until the last cell rests.
        self.assertEqual(end(1, 16, path(16), [1] + [0] * 15), [17, 2] + [3] * 15)

    def test_as_a_run_to_the_end_counts(self):
        for kind in (0, 1):
            begin = (("kind", kind), ("graph", 7, path(7)), ("set", [1, 0, 2, 1, 2, 2, 1]))
            told = last(*begin, ("end",))
            given = ask(*begin, ("run", told[0]), ("counts",), ("run", 1), ("course", 1))
            self.assertEqual(given[3:], [[sum(told[1:])], [7] + told[1:], [0], [1, 0, 1]])
            self.assertGreater(last(*begin, ("run", told[0] - 1), ("run", 1))[0], 0)

    def test_nothing_changes(self):
        check_nothing_changes(self, ("end",))

    def test_refused_where_the_wave_lives(self):
        for name in ("chase", "fire"):
            check_refused(self, ("end",), -6, name)
        for kind in (0, 1):
            self.assertEqual(end(kind, 3, complete(3), [0, 1, 2]), [-6])
            self.assertEqual(end(kind, 3, complete(3), [0, 2, 1]), [-6])
            # One part lives, the others don't.
            self.assertEqual(end(kind, 6, [3, 4, 4, 5, 3, 5, 0, 1], [0, 1, 1, 1, 0, 2]), [-6])
            self.assertEqual(end(kind, 16, ring(16), [0, 1, 2] + [0] * 13), [-6])


class Course(unittest.TestCase):
    def test_a_configuration_that_stays(self):
        for most in (1, 2, 1000):
            self.assertEqual(ask(("course", most)), [[1, 0, 1]])
            self.assertEqual(course(0, 3, [], [0, 1, 2], most), [1, 0, 1])
            self.assertEqual(course(1, 1, [], [0], most), [1, 0, 1])

    def test_one_that_comes_to_stay(self):
        self.assertEqual(course(0, 3, complete(3), [0, 1, 1], 1), [0])
        for most in (2, 3, 1000):
            self.assertEqual(course(0, 3, complete(3), [0, 1, 1], most), [1, 1, 1])
        self.assertEqual(course(1, 3, complete(3), [0, 1, 1], 3), [0])
        for most in (4, 1000):
            self.assertEqual(course(1, 3, complete(3), [0, 1, 1], most), [1, 3, 1])
        self.assertEqual(course(1, 2, [], [1, 2], 3), [1, 2, 1])

    def test_one_that_comes_round(self):
        for kind in (0, 1):
            for most in (1, 2):
                self.assertEqual(course(kind, 3, complete(3), [0, 1, 2], most), [0])
            for most in (3, 4, 1000):
                self.assertEqual(course(kind, 3, complete(3), [0, 1, 2], most), [1, 0, 3])
            self.assertEqual(course(kind, 16, ring(16), [0, 1, 2] + [0] * 13, 15), [0])
            self.assertEqual(course(kind, 16, ring(16), [0, 1, 2] + [0] * 13, 16), [1, 0, 16])

    def test_one_that_comes_round_after_a_while(self):
        # A triangle that goes round, and a cell at it that has to fall in first.
        edges = [0, 1, 0, 2, 1, 2, 0, 3]
        self.assertEqual(course(0, 4, edges, [0, 1, 2, 0], 3), [0])
        for most in (4, 1000):
            self.assertEqual(course(0, 4, edges, [0, 1, 2, 0], most), [1, 1, 3])

    def test_several_parts(self):
        for kind in (0, 1):
            self.assertEqual(course(kind, 16, THREE_RINGS, THREE_WAVES, 139), [0])
            self.assertEqual(course(kind, 16, THREE_RINGS, THREE_WAVES, 140), [1, 0, 140])
            self.assertEqual(course(kind, 16, THREE_RINGS, THREE_WAVES, 1000), [1, 0, 140])

    def test_generations_are_counted_from_now(self):
        self.assertEqual(last(("set", [0, 1, 1]), ("run", 1), ("course", 1)), [1, 0, 1])
        self.assertEqual(last(("set", [0, 1, 2]), ("run", 2), ("course", 3)), [1, 0, 3])

    def test_as_runs_go(self):
        for kind in (0, 1):
            begin = (("kind", kind), ("graph", 5, [0, 1, 1, 2, 2, 0, 2, 3, 3, 4]), ("set", [2, 1, 0, 1, 2]))
            told = last(*begin, ("course", 1000))
            configs = [last(*begin, ("run", t), ("config",)) for t in range(told[1] + told[2] + 1)]
            self.assertEqual(configs[told[1]], configs[-1])
            self.assertEqual(len({tuple(config) for config in configs[:-1]}), told[1] + told[2])

    def test_nothing_changes(self):
        for most in (1, 2, 1000):
            check_nothing_changes(self, ("course", most))

    def test_out_of_range(self):
        for wrong in (0, -1, 1001, LEAST, GREATEST):
            check_refused_everywhere(self, ("course", wrong), -1)


if __name__ == "__main__":
    unittest.main()

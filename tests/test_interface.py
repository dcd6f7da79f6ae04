"""The one list that is handed in, and the one that is given back."""

import unittest

import graphwaves
from graphwaves.waves import answers
from tests.calling import GREATEST, LEAST, NUMBERS, apart, ask, complete, flat, ring

# Calls of all numbers, some of them answered by a refusal.
MANY_CALLS = (
    ("told",), ("set", [0, 1, 2]), ("heights",), ("run", 3), ("counts",), ("time",), ("config",),
    ("kind", 1), ("kind", 2), ("set", [1, 0]), ("graph", 5, [0, 1, 1, 2, 2, 3, 3, 4, 4, 0]),
    ("graph", 5, [0, 1, 1, 0]), ("graph", GREATEST, []), ("graph", 4, [LEAST, GREATEST]),
    ("set", [1, 0, 0, 0, 2]), ("run", 1), ("run", 1000), ("run", 1001), ("lean", 0, 1), ("lean", 0, 2),
    ("lean", LEAST, 0), ("walk", [0, 1, 2, 3, 4, 0]), ("walk", []), ("walk", [0, 3]), ("heights",), ("told",),
    ("windings",), ("ring", 2, 3), ("ring", 3, 2), ("ring", 0, 1), ("ring", GREATEST, 1), ("lives",), ("end",),
    ("best", 1, 10), ("best", 5, 10), ("best", 1, LEAST), ("speed", 4), ("speed", -1), ("course", 10), ("course", 0),
    ("ball", 2, 1), ("ball", 2, 17), ("parts",), ("turn", 2), ("turn", 3), ("rename", [4, 2, 0, 1, 3]),
    ("rename", [4, 2, 0, 1, 1]), ("rename", []), ("told",), ("config",), ("counts",), ("kind", 0), ("turn", 2),
    ("config",), ("set", [0, 0, 1, 1, 0]), ("end",), ("course", 1), ("counts",), ("time",), ("windings",),
)
MANY = flat(MANY_CALLS)


class Unchanging(list):
    """A list that fails where it would be changed, if only for a while."""

    def fail(self, *given, **named):
        raise AssertionError("what was handed in is changed")

    append = clear = extend = insert = pop = remove = reverse = sort = fail
    __setitem__ = __delitem__ = __iadd__ = __imul__ = fail


class Interface(unittest.TestCase):
    def test_the_flat_form(self):
        self.assertEqual(answers([1]), [8, 3, 3, 0, 1, 0, 2, 1, 2])
        self.assertEqual(answers([0, 2, 2, 0, 1, 1]), [1, 0, 4, 2, 1, 0, 1])
        self.assertEqual(answers([0, 1, 0, 4]), [1, 0, 2, 1, 0])
        self.assertEqual(answers([2, 1, 4]), [1, 0, 4, 3, 0, 0, 0])
        self.assertEqual(answers([3, 3, 2, 1, 0, 4]), [1, 0, 4, 3, 2, 1, 0])
        self.assertEqual(answers([5, 3, 7, 6]), [1, 0, 1, 3, 4, 3, 0, 0, 0])
        self.assertEqual(answers([8, 0, 1, 9, 2, 1, 2]), [2, 0, 0, 2, 0, 0])
        self.assertEqual(answers([10]), [4, 1, 0, 0, 0])
        self.assertEqual(answers([11, 7]), [4, 1, 1, 2, 0, 1, 0])
        self.assertEqual(answers([12, 2, 1, 7]), [4, 3, 1, 2, 0, 1, 0])
        self.assertEqual(answers([13, 14, 7]), [1, 0, 4, 0, 0, 0, 0, 1, 0])
        self.assertEqual(answers([15, 1, 1, 16, 1, 7]), [1, 0, 2, 0, 1, 1, 0])
        self.assertEqual(answers([17, 1, 7]), [3, 1, 0, 1, 1, 0])
        self.assertEqual(answers([18, 1, 0, 19, 7]), [2, 1, 1, 4, 3, 0, 0, 0, 1, 0])
        self.assertEqual(answers([20, 1, 21, 3, 1, 2, 0, 4]), [1, 0, 1, 0, 4, 3, 1, 1, 1])

    def test_a_refusal_is_its_number_alone(self):
        self.assertEqual(answers([8, 0, 0, 8, 0, 3, 5, -1]), [1, -5, 1, -1, 1, -1])
        self.assertEqual(answers([9, 0, 9, 2, 1, 1, 3, 0, 7]), [1, -1, 1, -5, 1, -1, 1, 0])
        self.assertEqual(answers([12, 0, 1, 12, 3, 1, 16, 3, 17, 0]), [1, -5, 1, -1, 1, -1, 1, -1])
        self.assertEqual(answers([3, 3, 0, 1, 2, 14, 2, 1, 20, 0, 20, 3]), [1, 0, 1, -6, 1, 0, 1, -7, 1, -1])
        self.assertEqual(answers([15, 3, 1, 15, 1, 1001, 18, 1, 17, 21, 0]), [1, -1, 1, -1, 1, -1, 1, -1])

    def test_a_refused_list_is_passed_over_whole(self):
        # What stands in these lists looks like calls.
        self.assertEqual(answers([0, 99, 3, 1, 1, 1, 7]), [1, -1, 1, 0])
        self.assertEqual(answers([3, 300] + [1] * 300 + [7]), [1, -1, 1, 0])
        self.assertEqual(answers([9, 300] + [7] * 300 + [7]), [1, -1, 1, 0])
        self.assertEqual(answers([0, 16, 300] + [7] * 300 + [7]), [1, -1, 1, 0])
        self.assertEqual(answers([21, 300] + [7] * 300 + [7]), [1, -1, 1, 0])

    def test_the_first_example(self):
        self.assertEqual(answers([3, 3, 0, 1, 2, 13, 11, 5, 3, 4, 16, 0, 12, 1, 2]),
                         [1, 0, 1, 1, 4, 1, 1, 2, 1, 1, 9, 4, 3, 0, 1, 2, 2, 1, 1, 4, 3, 1, 2, 0])

    def test_the_second_example(self):
        self.assertEqual(answers([3, 3, 0, 1, 1, 10, 14, 2, 1, 14]),
                         [1, 0, 4, 1, 0, 1, 1, 4, 1, 1, 0, 0, 1, 0, 4, 3, 3, 2, 2])

    def test_calls_of_all_numbers(self):
        self.assertEqual(sorted(NUMBERS.values()), list(range(22)))
        self.assertEqual({call[0] for call in MANY_CALLS}, set(NUMBERS))
        self.assertEqual(len(apart(answers(MANY))), len(MANY_CALLS))

    def test_what_is_handed_in_is_not_changed(self):
        handed = list(MANY)
        answers(handed)
        self.assertEqual(handed, MANY)
        self.assertEqual(answers(Unchanging(MANY)), answers(list(MANY)))

    def test_nothing_is_kept_from_one_time_to_the_next(self):
        first = answers(list(MANY))
        self.assertEqual(answers(list(MANY)), first)
        self.assertEqual(answers([1, 4, 6, 7]), [8, 3, 3, 0, 1, 0, 2, 1, 2, 4, 3, 0, 0, 0, 4, 3, 0, 0, 0, 1, 0])

    def test_what_is_given_back_is_no_part_of_what_is_kept(self):
        given = answers([1, 10])
        given.clear()
        self.assertEqual(answers([10]), [4, 1, 0, 0, 0])

    def test_whole_numbers_alone_are_given_back(self):
        given = answers(MANY)
        self.assertIs(type(given), list)
        self.assertEqual({type(number) for number in given}, {int})

    def test_four_hundred_calls(self):
        given = apart(answers(flat([("graph", 16, complete(16))] * 10 + [("run", 1)] * 390)))
        self.assertEqual(given, [[0]] * 400)

    def test_sixteen_thousand_numbers(self):
        states = flat([("set", [1] * 300)] * 52)
        given = apart(answers(states + [7] * 296))
        self.assertEqual(len(states) + 296, 16000)
        self.assertEqual(given, [[-1]] * 52 + [[0]] * 296)

    def test_the_package_is_named_graphwaves(self):
        self.assertEqual(graphwaves.waves.answers, answers)


class LongLists(unittest.TestCase):
    """400 calls of the kinds that take longest, on 16 cells."""

    def check(self, edges, states, call, answer, kind=0):
        given = ask(("kind", kind), ("graph", 16, edges), ("set", states), *[call] * 397)
        self.assertEqual(given[3:], [answer] * 397)

    def test_all_edges_with_a_wave_that_lives(self):
        # Each cell goes on in each generation.
        states = [k % 3 for k in range(16)]
        self.check(complete(16), states, ("run", 1000), [16000])
        self.check(complete(16), states, ("course", 1000), [1, 0, 3])
        self.check(complete(16), states, ("best", 3, 1000), [1000])
        self.check(complete(16), states, ("speed", 5), [1, 1])
        self.check(complete(16), states, ("end",), [-6])

    def test_all_edges_with_a_wave_that_ends(self):
        states = [0] * 15 + [1]
        self.check(complete(16), states, ("course", 1000), [1, 1, 1])
        self.check(complete(16), states, ("best", 3, 1000), [1])
        self.check(complete(16), states, ("speed", 5), [0, 1])
        self.check(complete(16), states, ("end",), [1] + [1] * 15 + [0])

    def test_a_ring_with_a_wave_that_lives(self):
        # Each cell goes on in 15 of 16 generations. From 3 the last round's level step is left out: 62 * 15 + 8.
        states = [k % 3 for k in range(15)] + [2]
        self.check(ring(16), states, ("run", 1000), [15000])
        self.check(ring(16), states, ("course", 1000), [1, 0, 16])
        self.check(ring(16), states, ("best", 3, 1000), [938])
        self.check(ring(16), states, ("speed", 5), [15, 16])
        self.check(ring(16), states, ("end",), [-6])

    def test_a_ring_with_a_wave_that_ends(self):
        # Rising from 0 to 8 on both sides.
        states = [min(k, 16 - k) % 3 for k in range(16)]
        self.check(ring(16), states, ("course", 1000), [1, 8, 1])
        self.check(ring(16), states, ("best", 3, 1000), [5])
        self.check(ring(16), states, ("speed", 5), [0, 1])
        self.check(ring(16), states, ("end",), [8] + [8 - min(k, 16 - k) for k in range(16)])

    def test_fires(self):
        states = [0, 1, 2] + [0] * 13
        self.check(ring(16), states, ("run", 1000), [3000], kind=1)
        self.check(ring(16), states, ("course", 1000), [1, 0, 16], kind=1)
        # From one burning cell both fires come to the farthest cell in 8 generations; it cools and rests in two more.
        states = [1] + [0] * 15
        self.check(ring(16), states, ("end",), [10, 2] + [3] * 15, kind=1)
        self.check(complete(16), states, ("end",), [3, 2] + [3] * 15, kind=1)
        self.check(complete(16), states, ("course", 1000), [1, 3, 1], kind=1)


if __name__ == "__main__":
    unittest.main()

"""The one list that is handed in, and the one that is given back."""

import unittest

import graphwaves
from graphwaves.waves import answers
from tests.calling import GREATEST, LEAST, apart, complete, flat

# Every call of this list is answered, some by a refusal.
MANY = flat([
    ("told",), ("set", [0, 1, 2]), ("heights",), ("run", 3), ("counts",), ("time",), ("config",),
    ("kind", 1), ("kind", 2), ("set", [1, 0]), ("graph", 5, [0, 1, 1, 2, 2, 3, 3, 4, 4, 0]),
    ("graph", 5, [0, 1, 1, 0]), ("graph", GREATEST, []), ("graph", 4, [LEAST, GREATEST]),
    ("set", [1, 0, 0, 0, 2]), ("run", 1), ("run", 1000), ("run", 1001), ("lean", 0, 1), ("lean", 0, 2),
    ("lean", LEAST, 0), ("walk", [0, 1, 2, 3, 4, 0]), ("walk", []), ("walk", [0, 3]), ("heights",), ("told",),
])


class Unchanging(list):
    """A list that fails where it would be changed, if only for a while."""

    def fail(self, *given, **named):
        raise AssertionError("what was handed in is changed")

    append = clear = extend = insert = pop = remove = reverse = sort = fail
    __setitem__ = __delitem__ = __iadd__ = __imul__ = fail


class Interface(unittest.TestCase):
    def test_the_flat_form(self):
        self.assertEqual(answers([1]), [8, 3, 3, 0, 1, 0, 2, 1, 2])
        self.assertEqual(answers([0, 2, 2, 0, 1, 1]), [1, 0, 4, 2, 1, 0, 1])
        self.assertEqual(answers([0, 1, 0, 4]), [1, 0, 2, 1, 0])
        self.assertEqual(answers([2, 1, 4]), [1, 0, 4, 3, 0, 0, 0])
        self.assertEqual(answers([3, 3, 2, 1, 0, 4]), [1, 0, 4, 3, 2, 1, 0])
        self.assertEqual(answers([5, 3, 7, 6]), [1, 0, 1, 3, 4, 3, 0, 0, 0])
        self.assertEqual(answers([8, 0, 1, 9, 2, 1, 2]), [2, 0, 0, 2, 0, 0])
        self.assertEqual(answers([10]), [4, 1, 0, 0, 0])

    def test_a_refusal_is_its_number_alone(self):
        self.assertEqual(answers([8, 0, 0, 8, 0, 3, 5, -1]), [1, -5, 1, -1, 1, -1])
        self.assertEqual(answers([9, 0, 9, 2, 1, 1, 3, 0, 7]), [1, -1, 1, -5, 1, -1, 1, 0])

    def test_a_refused_list_is_passed_over_whole(self):
        # What stands in these lists looks like calls.
        self.assertEqual(answers([0, 99, 3, 1, 1, 1, 7]), [1, -1, 1, 0])
        self.assertEqual(answers([3, 300] + [1] * 300 + [7]), [1, -1, 1, 0])
        self.assertEqual(answers([9, 300] + [7] * 300 + [7]), [1, -1, 1, 0])
        self.assertEqual(answers([0, 16, 300] + [7] * 300 + [7]), [1, -1, 1, 0])

    def test_the_first_example(self):
        self.assertEqual(answers([3, 3, 0, 1, 2, 5, 3, 4]), [1, 0, 1, 9, 4, 3, 0, 1, 2])

    def test_the_second_example(self):
        self.assertEqual(answers([3, 3, 0, 1, 1, 10, 2, 1]), [1, 0, 4, 1, 0, 1, 1, 1, 0])

    def test_what_is_handed_in_is_not_changed(self):
        handed = list(MANY)
        answers(handed)
        self.assertEqual(handed, MANY)
        self.assertEqual(answers(Unchanging(MANY)), answers(list(MANY)))

    def test_nothing_is_kept_from_one_time_to_the_next(self):
        first = answers(list(MANY))
        self.assertEqual(answers(list(MANY)), first)
        self.assertEqual(answers([1, 4, 6, 7]), [8, 3, 3, 0, 1, 0, 2, 1, 2, 4, 3, 0, 0, 0, 4, 3, 0, 0, 0, 1, 0])

    def test_what_is_given_back_is_no_part_of_what_is_kept(self):
        given = answers([1, 10])
        given.clear()
        self.assertEqual(answers([10]), [4, 1, 0, 0, 0])

    def test_whole_numbers_alone_are_given_back(self):
        given = answers(MANY)
        self.assertIs(type(given), list)
        self.assertEqual({type(number) for number in given}, {int})

    def test_four_hundred_calls(self):
        given = apart(answers(flat([("graph", 16, complete(16))] * 10 + [("run", 1)] * 390)))
        self.assertEqual(given, [[0]] * 400)

    def test_sixteen_thousand_numbers(self):
        states = flat([("set", [1] * 300)] * 52)
        given = apart(answers(states + [7] * 296))
        self.assertEqual(len(states) + 296, 16000)
        self.assertEqual(given, [[-1]] * 52 + [[0]] * 296)

    def test_the_package_is_named_graphwaves(self):
        self.assertEqual(graphwaves.waves.answers, answers)


if __name__ == "__main__":
    unittest.main()

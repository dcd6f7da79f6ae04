"""That the states before refusals, and the looks at them, are apart from one another."""

import unittest

from tests.calling import BEFORE, LOOKS, ask


class Looks(unittest.TestCase):
    def test_each_value_before_a_refusal_is_another_than_in_a_new_object(self):
        new = ask(*LOOKS)
        for name in ("chase", "fire"):
            looks = ask(*BEFORE[name], *LOOKS)[len(BEFORE[name]):]
            for place in range(5):
                self.assertNotEqual(looks[place], new[place])
            self.assertNotEqual(looks[2][1:], [0] * 5)

    def test_the_kind_shows(self):
        for name in ("chase", "fire"):
            chase = ask(*BEFORE[name], ("kind", 0), *LOOKS)
            fire = ask(*BEFORE[name], ("kind", 1), *LOOKS)
            self.assertNotEqual(chase, fire)


if __name__ == "__main__":
    unittest.main()

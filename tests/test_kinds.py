"""Point 2: what an integer is."""

import unittest

from oneedition.kinds import is_within
from tests.helper import HUGE, any_values


class Within(unittest.TestCase):

    def test_the_bounds_belong_to_it(self):
        told = [is_within(value, 1, 3) for value in (0, 1, 2, 3, 4)]
        self.assertEqual(told, [False, True, True, True, False])
        self.assertEqual([is_within(value, 3, 2) for value in (2, 3)], [False, False])

    def test_any_value(self):
        for value in any_values():
            self.assertIs(is_within(value, -HUGE, HUGE), type(value) is int)


if __name__ == "__main__":
    unittest.main()

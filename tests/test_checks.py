"""The judges of single values that the other modules share."""

import unittest

from markthenpurge import checks
from tests.wrong import all_but, is_empty_list


class Judges(unittest.TestCase):
    def test_integers(self):
        for value in [0, -1, 5, 10 ** 40, -10 ** 40]:
            self.assertIs(checks.is_integer(value), True)
        for value in all_but(lambda value: type(value) is int):
            self.assertIs(checks.is_integer(value), False)
            self.assertIs(checks.is_integer_from(value, 0), False)
            self.assertIs(checks.is_integer_within(value, -5, 5), False)

    def test_integers_within_bounds(self):
        self.assertEqual([checks.is_integer_from(value, 1) for value in (0, 1, 2)], [False, True, True])
        rows = [checks.is_integer_within(value, 1, 2) for value in (0, 1, 2, 3)]
        self.assertEqual(rows, [False, True, True, False])

    def test_positions(self):
        self.assertEqual([checks.is_position(value, 2) for value in (-1, 0, 1, 2)], [False, True, True, False])
        self.assertIs(checks.is_position(0, 0), False)

    def test_keys(self):
        for key in ["a", "z", "abcdefgh", "zzzzzzzz"]:
            self.assertIs(checks.is_key(key), True)
        for key in ["", "abcdefghi", "aB", "a1", "a b", "`", "{", "\u00e4", "a\n", b"a", ["a"], None]:
            self.assertIs(checks.is_key(key), False)

    def test_position_lists(self):
        for value in [[], [0], [2], [0, 1, 2], [0, 2]]:
            self.assertIs(checks.is_position_list(value, 3), True)
        for value in [[0, 0], [1, 0], [0, 2, 2], [0, 2, 1], [3], [-1], (0, 1), [False], [0, 1.0], range(2), {0, 1}]:
            self.assertIs(checks.is_position_list(value, 3), False)
        for value in all_but(is_empty_list):
            self.assertIs(checks.is_position_list(value, 0), False)

    def test_ranges(self):
        for a, b in [(0, 0), (0, 2), (2, 2)]:
            self.assertIs(checks.is_range(a, b, 3), True)
        for a, b in [(1, 0), (0, 3), (3, 3), (-1, 0), (False, 1), (0, True), (0, 1.0), (None, 1)]:
            self.assertIs(checks.is_range(a, b, 3), False)


if __name__ == "__main__":
    unittest.main()

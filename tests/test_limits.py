"""Section 13: the limits."""

import unittest

from partwise import limits

LIMITS = {
    "MAX_NUMBER": 1000000000000000000000000000000,
    "MAX_LETTERS": 8,
    "MAX_MODULUS": 60,
    "MAX_COLUMNS": 5,
    "MAX_ATOMS": 8,
    "MAX_PARENTHESES": 5,
    "MAX_NOT": 5,
    "MAX_VALUES": 8,
    "MAX_PARAMETERS": 4,
    "MAX_RANGE_COLUMNS": 2,
    "MAX_PARTS": 6,
    "MAX_TABLES": 40,
    "MAX_CUTS": 3,
    "MAX_CHECKS": 2,
    "MAX_KEYS": 2,
}


class LimitsTest(unittest.TestCase):
    def test_each_limit(self):
        for name, value in LIMITS.items():
            with self.subTest(name):
                self.assertEqual(getattr(limits, name), value)
                self.assertIs(type(getattr(limits, name)), int)

    def test_no_other_limit(self):
        found = [name for name in vars(limits) if name.startswith("MAX_")]
        self.assertEqual(sorted(found), sorted(LIMITS))

    def test_number(self):
        self.assertEqual(limits.MAX_NUMBER, 10 ** 30)


if __name__ == "__main__":
    unittest.main()

"""The judges of basics: days, counts, rules, names, dicts of days."""

import unittest

from leadrules.basics import is_count, is_day, is_days, is_name, is_rule
from tests import wrong


class Judges(unittest.TestCase):
    def test_days(self):
        for value in (0, 1, -1, 10 ** 12, -10 ** 12, 10 ** 30):
            self.assertIs(is_day(value), True)
        for value in wrong.NOT_DAYS:
            self.assertIs(is_day(value), False)

    def test_counts(self):
        for value in (0, 1, 600, 10 ** 12):
            self.assertIs(is_count(value), True)
        for value in wrong.NOT_COUNTS:
            self.assertIs(is_count(value), False)

    def test_rules_and_names(self):
        letters = "abcdefghijklmnopqrstuvwxyz"
        self.assertEqual([letter for letter in letters if is_rule(letter)], list("abcdefgh"))
        self.assertEqual([letter for letter in letters if is_name(letter)], list("pqrstuvwxyz"))
        for value in wrong.NOT_RULES:
            self.assertIs(is_rule(value), False)
        for value in wrong.NOT_NAMES:
            self.assertIs(is_name(value), False)
        for value in "ABCHPZ {`@":
            self.assertIs(is_rule(value) or is_name(value), False)

    def test_dicts_of_days(self):
        for value in ({}, {"x": 0}, {"p": -10 ** 12, "z": 5}, {name: 1 for name in "pqrstuvwxyz"}):
            self.assertIs(is_days(value), True)
        for value in wrong.NOT_DAY_DICTS:
            self.assertIs(is_days(value), False)


if __name__ == "__main__":
    unittest.main()

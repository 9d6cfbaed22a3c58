"""Point [5]: the codes of faults, the constants, is_fault."""

import unittest

from slipwire import codes
from slipwire.codes import is_fault
from things import same, things

CONSTANTS = {"HEAD": 10, "TALK": 11, "SIZE": 12, "ORDER": 13, "SIGNS": 14, "GREAT": 15, "END": 16,
             "DONE": 1, "MOST": 4096, "EVERY": 100}


class Constants(unittest.TestCase):
    def test_each_is_the_number_told(self):
        for name, number in CONSTANTS.items():
            with self.subTest(name=name):
                self.assertTrue(same(getattr(codes, name), number))

    def test_the_faults_constants_are_faults_and_done_is_none(self):
        for name, number in CONSTANTS.items():
            with self.subTest(name=name):
                self.assertIs(is_fault(getattr(codes, name)), 10 <= number <= 16)


class IsFault(unittest.TestCase):
    def test_numbers_from_10_to_16(self):
        for number in range(-300, 5000):
            self.assertIs(is_fault(number), number in (10, 11, 12, 13, 14, 15, 16), number)

    def test_great_numbers(self):
        for number in (2 ** 24 - 1, 2 ** 64 + 12, -2 ** 64, 10 ** 30, -10, -16):
            self.assertIs(is_fault(number), False)

    def test_true_and_false_are_no_numbers(self):
        self.assertIs(is_fault(True), False)
        self.assertIs(is_fault(False), False)

    def test_other_things(self):
        rows = [None, "", "10", "12", "HEAD", [], (), [10], (10,), [12, 3], (12, 3), [[10]], ((16,),), ([[10]],)]
        for thing in rows:
            with self.subTest(thing=thing):
                self.assertIs(is_fault(thing), False)

    def test_anything_six_deep(self):
        for thing in things():
            wanted = type(thing) is int and 10 <= thing <= 16
            self.assertIs(is_fault(thing), wanted, thing)

    def test_by_name(self):
        self.assertIs(is_fault(thing=10), True)
        self.assertIs(is_fault(thing=9), False)


if __name__ == "__main__":
    unittest.main()

"""Point [4], its part about sizes."""

import itertools
import unittest

from slipwire.errors import Fault
from slipwire.sizes import size_at, size_bytes
from things import same

FAR = 2 ** 24 - 1
WRITTEN = {
    0: [0], 1: [1], 120: [120], 248: [248], 249: [249],
    250: [250, 0, 250], 251: [250, 0, 251], 252: [250, 0, 252], 255: [250, 0, 255],
    256: [250, 1, 0], 257: [250, 1, 1], 511: [250, 1, 255], 512: [250, 2, 0],
    65_534: [250, 255, 254], 65_535: [250, 255, 255],
    65_536: [251, 1, 0, 0], 65_537: [251, 1, 0, 1], 65_792: [251, 1, 1, 0], 70_200: [251, 1, 18, 56],
    131_072: [251, 2, 0, 0], FAR - 1: [251, 255, 255, 254], FAR: [251, 255, 255, 255],
}
ROWS = [[], [0], [250], [251, 0], [252], [255, 255, 255, 255], [0] * 9, [17, 250, 0, 3], [251]]


def refusal_of(codes, at):
    try:
        told = size_at(codes, at)
    except Fault as refusal:
        return refusal.code, refusal.at
    return told


class SizeBytes(unittest.TestCase):
    def test_worked_sizes(self):
        for size, row in WRITTEN.items():
            with self.subTest(size=size):
                self.assertTrue(same(size_bytes(size), row))

    def test_the_first_byte_tells_how_many_follow(self):
        for size in list(range(70_300)) + list(range(FAR - 300, FAR + 1)):
            row = size_bytes(size)
            self.assertEqual(len(row), 1 if size < 250 else 3 if size <= 65_535 else 4)
            if size >= 250:
                self.assertEqual(row[0], 250 if size <= 65_535 else 251)
                self.assertEqual(int.from_bytes(bytes(row[1:]), "big"), size)

    def test_by_name(self):
        self.assertEqual(size_bytes(size=250), [250, 0, 250])

    def test_a_told_list_is_the_askers_own(self):
        for size, row in WRITTEN.items():
            size_bytes(size).append(7)
            self.assertEqual(size_bytes(size), row)
            self.assertIsNot(size_bytes(size), size_bytes(size))


class SizeAt(unittest.TestCase):
    def test_worked_sizes_with_any_bytes_ahead_and_behind(self):
        for size, row in WRITTEN.items():
            for ahead, behind in itertools.product(ROWS, ROWS):
                told = size_at(ahead + row + behind, len(ahead))
                self.assertTrue(same(told, (size, len(ahead) + len(row))), (size, ahead, behind, told))

    def test_there_and_back(self):
        for size in list(range(66_000)) + list(range(65_536, FAR, 9973)):
            row = size_bytes(size)
            self.assertEqual(size_at(row, 0), (size, len(row)))

    def test_a_tuple_is_the_same(self):
        for size, row in WRITTEN.items():
            self.assertTrue(same(size_at((9, *row), 1), (size, 1 + len(row))))
            self.assertIsNone(size_at(tuple(row[:-1]), 0))
        with self.assertRaises(Fault):
            size_at((251, 0), 0)

    def test_none_of_each_beginning(self):
        for size, row in WRITTEN.items():
            for ahead in ROWS:
                for many in range(len(row)):
                    self.assertIsNone(size_at(ahead + row[:many], len(ahead)), (size, ahead, many))

    def test_none_where_there_are_no_codes_from_there_on(self):
        for row in ROWS:
            self.assertIsNone(size_at(row, len(row)))

    def test_252_to_255_are_at_fault(self):
        for byte in range(256):
            for ahead in ROWS:
                for behind in ROWS:
                    told = refusal_of(ahead + [byte] + behind, len(ahead))
                    if byte < 250:
                        self.assertEqual(told, (byte, len(ahead) + 1))
                    elif byte > 251:
                        self.assertEqual(told, (12, len(ahead)))

    def test_behind_250_below_250_is_at_fault_at_the_second_byte(self):
        for ahead in ROWS:
            self.assertIsNone(size_at(ahead + [250, 0], len(ahead)))
            for byte in range(256):
                wanted = (12, len(ahead) + 2) if byte < 250 else (byte, len(ahead) + 3)
                for behind in ([], [0], [255, 255]):
                    self.assertEqual(refusal_of(ahead + [250, 0, byte] + behind, len(ahead)), wanted)

    def test_behind_250_any_first_byte_but_0_goes_with_any_second(self):
        for first in range(1, 256):
            for second in (0, 1, 249, 250, 255):
                self.assertEqual(size_at([250, first, second], 0), (first * 256 + second, 3))

    def test_behind_251_a_first_byte_of_0_is_at_fault_at_once(self):
        for ahead in ROWS:
            for behind in ROWS:
                self.assertEqual(refusal_of(ahead + [251, 0] + behind, len(ahead)), (12, len(ahead) + 1))
            self.assertIsNone(size_at(ahead + [251], len(ahead)))

    def test_behind_251_any_other_first_byte_goes(self):
        for first in range(1, 256):
            self.assertIsNone(size_at([251, first], 0))
            self.assertIsNone(size_at([251, first, 0], 0))
            self.assertEqual(size_at([251, first, 0, 0], 0), (first * 65_536, 4))

    def test_the_refusal_is_a_fault_of_code_12(self):
        with self.assertRaises(Fault) as held:
            size_at([3, 252], 1)
        self.assertIs(type(held.exception), Fault)
        self.assertTrue(same((held.exception.code, held.exception.at), (12, 1)))

    def test_by_names(self):
        self.assertEqual(size_at(codes=[9, 250, 1, 0], at=1), (256, 4))
        self.assertEqual(size_at(at=0, codes=[9]), (9, 1))

    def test_what_is_handed_in_stays(self):
        for row in list(WRITTEN.values()) + ROWS:
            codes = list(row)
            for at in range(len(row) + 1):
                refusal_of(codes, at)
                self.assertTrue(same(codes, row))


if __name__ == "__main__":
    unittest.main()

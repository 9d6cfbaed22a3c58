"""Point [4], its part about masks."""

import copy
import unittest

from slipwire.masks import is_mask, mask_of, masked
from things import same, things

FAR = 2 ** 24 - 1
ROWS = [[], [0], [255], [7], [1, 2], [1, 2, 3], [1, 2, 3, 4], [9, 8, 7, 6, 5], list(range(256)),
        [0] * 13, [255] * 13, [(31 * place + 5) % 256 for place in range(3000)]]
MASKS = [(1, 2, 3, 4), (0, 0, 0, 0), (255, 255, 255, 255), (0, 255, 0, 255), (17, 0, 0, 0), (0, 0, 0, 200),
         (250, 13, 99, 128)]
STARTS = [0, 1, 2, 3, 4, 5, 6, 7, 1001, 65_534, 65_535, FAR - 3, FAR - 2, FAR - 1, FAR]


def cases():
    return [(row, mask, start) for row in ROWS for mask in MASKS for start in STARTS]


class Masked(unittest.TestCase):
    def test_worked_rows(self):
        self.assertEqual(masked([], (1, 2, 3, 4)), [])
        self.assertEqual(masked([5], (1, 2, 3, 4)), [4])
        self.assertEqual(masked([0, 0, 0, 0, 0, 0], (1, 2, 3, 4)), [1, 2, 3, 4, 1, 2])
        self.assertEqual(masked([0, 0, 0, 0, 0, 0], (1, 2, 3, 4), start=3), [4, 1, 2, 3, 4, 1])
        self.assertEqual(masked([0, 0, 0], (1, 2, 3, 4), start=FAR), [4, 1, 2])
        self.assertEqual(masked([72, 105, 255, 0, 128], (255, 16, 240, 7)), [183, 121, 15, 7, 127])

    def test_noughts_leave_a_row_as_it_is(self):
        for row in ROWS:
            for start in STARTS:
                self.assertEqual(masked(row, (0, 0, 0, 0), start=start), row)

    def test_255s_turn_each_byte_about(self):
        for row in ROWS:
            for start in STARTS:
                self.assertEqual(masked(row, (255, 255, 255, 255), start=start), [255 - byte for byte in row])

    def test_each_byte_by_the_byte_of_its_place(self):
        for row, mask, start in cases():
            told = masked(row, mask, start=start)
            self.assertEqual(len(told), len(row))
            turned = mask[start % 4:] + mask[:start % 4]
            for rest in range(4):
                for byte, now in zip(row[rest::4], told[rest::4]):
                    self.assertEqual(now, byte ^ turned[rest])

    def test_start_left_out_is_0(self):
        for row in ROWS:
            for mask in MASKS:
                self.assertEqual(masked(row, mask), masked(row, mask, start=0))

    def test_masked_once_more_it_is_the_row_again(self):
        for row, mask, start in cases():
            self.assertEqual(masked(masked(row, mask, start=start), mask, start=start), row)

    def test_a_row_in_two_parts(self):
        for row in ROWS[:-1]:
            for cut in range(len(row) + 1):
                for start in (0, 1, 2, 3, 1001):
                    parts = masked(row[:cut], MASKS[0], start=start)
                    parts += masked(row[cut:], MASKS[0], start=start + cut)
                    self.assertEqual(parts, masked(row, MASKS[0], start=start))

    def test_told_is_a_list_of_bytes(self):
        for row, mask, start in cases():
            told = masked(row, mask, start=start)
            self.assertIs(type(told), list)
            self.assertTrue(all(type(byte) is int and 0 <= byte <= 255 for byte in told))

    def test_lists_and_tuples_are_the_same(self):
        for row, mask, start in cases():
            told = masked(row, mask, start=start)
            self.assertEqual(masked(tuple(row), mask, start=start), told)
            self.assertEqual(masked(row, list(mask), start=start), told)
            self.assertEqual(masked(tuple(row), list(mask), start=start), told)

    def test_names_in_any_order(self):
        told = [4, 4, 4]
        self.assertEqual(masked(codes=[0, 5, 6], mask=(1, 2, 3, 4), start=3), told)
        self.assertEqual(masked(start=3, mask=(1, 2, 3, 4), codes=[0, 5, 6]), told)
        self.assertEqual(masked([0, 5, 6], start=3, mask=(1, 2, 3, 4)), told)
        self.assertEqual(masked(mask=(1, 2, 3, 4), codes=[0, 5, 6]), [1, 7, 5])

    def test_start_goes_by_name_alone(self):
        with self.assertRaises(TypeError):
            masked([0, 5, 6], (1, 2, 3, 4), 3)

    def test_what_is_handed_in_stays(self):
        for row, mask, start in cases():
            codes, listed = list(row), list(mask)
            masked(codes, listed, start=start)
            self.assertTrue(same(codes, row))
            self.assertTrue(same(listed, list(mask)))

    def test_a_told_list_is_the_askers_own(self):
        for mask in MASKS:
            for row in ROWS:
                codes = list(row)
                first = masked(codes, mask)
                wanted = list(first)
                self.assertIsNot(first, codes)
                first.append(300)
                first[0] = 300
                self.assertEqual(codes, row)
                self.assertEqual(masked(codes, mask), wanted)

    def test_what_is_handed_in_is_not_kept(self):
        codes, mask = [1, 2, 3], [1, 2, 3, 4]
        told = masked(codes, mask)
        codes[0] = mask[0] = 77
        self.assertEqual(told, [0, 0, 0])
        self.assertEqual(masked([1, 2, 3], (1, 2, 3, 4)), [0, 0, 0])


class MaskOf(unittest.TestCase):
    NUMBERS = list(range(600)) + [1000, 65_535, 65_536, FAR - 1, FAR]

    def test_worked_numbers(self):
        self.assertEqual(mask_of((1, 2, 3, 4), 0), (1, 2, 3, 4))
        self.assertEqual(mask_of((1, 2, 3, 4), 1), (2, 5, 8, 11))
        self.assertEqual(mask_of((1, 2, 3, 4), 2), (3, 8, 13, 18))
        self.assertEqual(mask_of((255, 253, 251, 249), 1), (0, 0, 0, 0))
        self.assertEqual(mask_of((0, 0, 0, 0), 100), (100, 44, 244, 188))
        self.assertEqual(mask_of((0, 0, 0, 0), FAR), (255, 253, 251, 249))

    def test_number_0_is_the_first_mask(self):
        for mask in MASKS:
            self.assertEqual(mask_of(mask, 0), mask)

    def test_each_slip_goes_on_from_the_one_ahead(self):
        for first in MASKS:
            ahead = first
            for number in range(1, 600):
                wanted = tuple((byte + step) % 256 for byte, step in zip(ahead, (1, 3, 5, 7)))
                self.assertEqual(mask_of(first, number), wanted)
                ahead = wanted

    def test_they_come_again_each_256_slips(self):
        for first in MASKS:
            for number in (256, 65_535, 65_536, FAR - 1, FAR):
                self.assertEqual(mask_of(first, number), mask_of(first, number % 256))

    def test_told_is_a_tuple_of_four_bytes(self):
        for first in MASKS:
            for number in self.NUMBERS:
                told = mask_of(first, number)
                self.assertIs(type(told), tuple)
                self.assertEqual([type(byte) for byte in told], [int] * 4)
                self.assertIs(is_mask(told), True)

    def test_a_list_is_the_same(self):
        for first in MASKS:
            for number in self.NUMBERS:
                self.assertTrue(same(mask_of(list(first), number), mask_of(first, number)))

    def test_by_names(self):
        self.assertEqual(mask_of(first=(1, 2, 3, 4), number=1), (2, 5, 8, 11))
        self.assertEqual(mask_of(number=1, first=(1, 2, 3, 4)), (2, 5, 8, 11))
        self.assertEqual(mask_of((1, 2, 3, 4), number=1), (2, 5, 8, 11))

    def test_what_is_handed_in_stays_and_is_not_kept(self):
        first = [1, 2, 3, 4]
        told = mask_of(first, 1)
        self.assertTrue(same(first, [1, 2, 3, 4]))
        first[0] = 200
        self.assertEqual(told, (2, 5, 8, 11))
        self.assertEqual(mask_of([1, 2, 3, 4], 1), (2, 5, 8, 11))

    def test_what_was_told_may_be_handed_in_again(self):
        again = mask_of(mask_of((9, 9, 9, 9), 3), 4)
        self.assertEqual(again, mask_of((9, 9, 9, 9), 7))
        self.assertEqual(masked([0] * 4, again), list(again))


class IsMask(unittest.TestCase):
    def test_tuples_of_four_bytes(self):
        for mask in MASKS:
            self.assertIs(is_mask(mask), True)
        for byte in range(256):
            self.assertIs(is_mask((byte, 0, 255, byte)), True)

    def test_other_lengths(self):
        for many in (0, 1, 2, 3, 5, 6, 8):
            self.assertIs(is_mask((1,) * many), False)

    def test_a_list_is_none(self):
        self.assertIs(is_mask([1, 2, 3, 4]), False)
        self.assertIs(is_mask([]), False)

    def test_at_each_place_no_byte(self):
        wrong = [-1, 256, -2 ** 70, 2 ** 70, True, False, None, "", "1", [], (), [1], (1,), (1, 2, 3, 4)]
        for at in range(4):
            for thing in wrong:
                mask = [1, 2, 3, 4]
                mask[at] = thing
                with self.subTest(at=at, thing=thing):
                    self.assertIs(is_mask(tuple(mask)), False)

    def test_no_tuples(self):
        for thing in (None, True, False, 0, 4, 1234, "", "abcd", "1234", "(1, 2, 3, 4)"):
            self.assertIs(is_mask(thing), False)

    def test_masks_within_other_things(self):
        mask = (1, 2, 3, 4)
        for thing in ([mask], (mask,), (mask, mask, mask, mask), [mask] * 4, (mask, None), [[mask]], ((((mask,),),),)):
            self.assertIs(is_mask(thing), False)

    def test_anything_six_deep(self):
        for thing in things():
            wanted = type(thing) is tuple and len(thing) == 4
            wanted = wanted and all(type(part) is int and 0 <= part <= 255 for part in thing)
            self.assertIs(is_mask(thing), wanted, thing)

    def test_what_is_asked_of_stays(self):
        for thing in things():
            held = copy.deepcopy(thing)
            is_mask(thing)
            self.assertTrue(same(thing, held))

    def test_by_name(self):
        self.assertIs(is_mask(thing=(1, 2, 3, 4)), True)
        self.assertIs(is_mask(thing=None), False)


if __name__ == "__main__":
    unittest.main()

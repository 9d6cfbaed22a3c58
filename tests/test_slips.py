"""Point [6]: slips, how they are written, and slip_at."""

import copy
import functools
import itertools
import unittest

from slipwire.errors import BadSlip, Fault
from slipwire.slips import Slip, slip_at
from things import same, things

SORTS = {0: "more", 1: "words", 2: "bytes", 8: "end", 9: "bell", 10: "echo"}
CONTROLS = (8, 9, 10)
MASKS = [None, (1, 2, 3, 4), (0, 0, 0, 0), (255, 0, 17, 254)]
SIZES = {0: [0], 1: [1], 2: [2], 119: [119], 120: [120], 121: [121], 249: [249], 250: [250, 0, 250],
         255: [250, 0, 255], 256: [250, 1, 0], 65_535: [250, 255, 255], 65_536: [251, 1, 0, 0],
         70_200: [251, 1, 18, 56]}
PARTS = ("kind", "talk", "data", "last", "mask")


@functools.cache
def data_of(size):
    return tuple((7 * place + place // 256) % 256 for place in range(size))


@functools.cache
def cases():
    """What a slip may be made of, with its size's bytes."""
    rows = []
    for kind, talk, mask, size in itertools.product(SORTS, (0, 17, 31), MASKS, SIZES):
        if kind in CONTROLS and size > 120:
            continue
        if size > 300 and (talk != 17 or mask == (0, 0, 0, 0) or mask == (1, 2, 3, 4)):
            continue
        for last in (True,) if kind in CONTROLS else (True, False):
            rows.append((kind, talk, data_of(size), last, mask))
    return rows


def made(case):
    kind, talk, data, last, mask = case
    return Slip(kind, talk, data, last=last, mask=mask)


def written(case):
    kind, talk, data, last, mask = case
    row = [kind + 16 * (mask is not None) + 32 * last, talk] + SIZES[len(data)]
    if mask is None:
        return row + list(data)
    return row + list(mask) + [byte ^ mask[place % 4] for place, byte in enumerate(data)]


def fields(slip):
    return slip.kind, slip.talk, slip.data, slip.last, slip.mask


def wrong_part(*told, **more):
    try:
        Slip(*told, **more)
    except BadSlip as refusal:
        return refusal.part
    return None


def is_byte(thing):
    return type(thing) is int and 0 <= thing <= 255


def told_at(codes, at, masks):
    try:
        return slip_at(codes, at, masks=masks)
    except Fault as refusal:
        return refusal.code, refusal.at


class Fields(unittest.TestCase):
    def test_every_sort(self):
        for case in cases():
            self.assertTrue(same(fields(made(case)), case), case[:2])

    def test_by_place_and_by_names(self):
        wanted = (1, 3, (72, 105), False, (4, 3, 2, 1))
        for slip in (Slip(1, 3, [72, 105], last=False, mask=(4, 3, 2, 1)),
                     Slip(kind=1, talk=3, data=[72, 105], last=False, mask=(4, 3, 2, 1)),
                     Slip(mask=(4, 3, 2, 1), last=False, data=(72, 105), talk=3, kind=1),
                     Slip(1, talk=3, mask=[4, 3, 2, 1], data=(72, 105), last=False)):
            self.assertTrue(same(fields(slip), wanted))

    def test_what_is_left_out(self):
        for kind in SORTS:
            self.assertTrue(same(fields(Slip(kind, 4)), (kind, 4, (), True, None)))
            self.assertTrue(same(fields(Slip(kind, 4, [9])), (kind, 4, (9,), True, None)))
            self.assertTrue(same(fields(Slip(kind, 4, mask=[1, 2, 3, 4])), (kind, 4, (), True, (1, 2, 3, 4))))

    def test_last_and_mask_go_by_name_alone(self):
        with self.assertRaises(TypeError):
            Slip(1, 3, (), True)
        with self.assertRaises(TypeError):
            Slip(1)

    def test_lists_and_tuples_are_the_same(self):
        for data, mask in itertools.product(([], [0], [5, 255]), (None, [1, 2, 3, 4])):
            one = Slip(2, 0, data, mask=mask)
            other = Slip(2, 0, tuple(data), mask=None if mask is None else tuple(mask))
            self.assertTrue(same(fields(one), fields(other)))
            self.assertEqual(one, other)

    def test_what_is_handed_in_is_neither_changed_nor_kept(self):
        data, mask = [1, 2, 3], [9, 8, 7, 6]
        slip = Slip(2, 1, data, mask=mask)
        codes = slip.codes()
        self.assertTrue(same((data, mask), ([1, 2, 3], [9, 8, 7, 6])))
        data[0] = mask[0] = 77
        data.append(4)
        mask.clear()
        self.assertTrue(same(fields(slip), (2, 1, (1, 2, 3), True, (9, 8, 7, 6))))
        self.assertEqual(slip.codes(), codes)


class Refused(unittest.TestCase):
    def test_kind(self):
        for kind in range(-70, 300):
            self.assertEqual(wrong_part(kind, 0), None if kind in SORTS else "kind")
        for kind in (True, False, None, "", "words", "1", [], (), [1], (1,), [[1]], 2 ** 70, -2 ** 70):
            self.assertEqual(wrong_part(kind, 0), "kind", kind)

    def test_talk(self):
        for kind in SORTS:
            for talk in range(-40, 300):
                self.assertEqual(wrong_part(kind, talk), None if 0 <= talk <= 31 else "talk")
            for talk in (True, False, None, "", "3", [], (), [3], (3,), 2 ** 70):
                self.assertEqual(wrong_part(kind, talk), "talk", talk)

    def test_data(self):
        wrong = [None, True, False, 0, 5, "", "ab", [256], (256,), [-1], [0, True], [False], [None], ["a"], [""],
                 [[]], [()], [[1]], ([1],), ((1, 2),), [1, 2, (3,)], [2 ** 70], [1, 2, 3, "4"]]
        for kind, data in itertools.product(SORTS, wrong):
            self.assertEqual(wrong_part(kind, 0, data), "data", data)

    def test_data_at_each_place(self):
        for at, thing in itertools.product(range(5), (256, -1, True, None, "1", [1])):
            data = [1, 2, 3, 4, 5]
            data[at] = thing
            self.assertEqual(wrong_part(2, 0, data), "data")
            self.assertEqual(wrong_part(2, 0, tuple(data)), "data")

    def test_a_control_has_at_most_120_bytes(self):
        for kind in SORTS:
            for size in (0, 1, 119, 120, 121, 122, 249, 250, 3000):
                wanted = "data" if kind in CONTROLS and size > 120 else None
                self.assertEqual(wrong_part(kind, 5, [7] * size), wanted)
                self.assertEqual(wrong_part(kind, 5, (7,) * size, mask=(1, 2, 3, 4)), wanted)

    def test_last(self):
        for kind in SORTS:
            self.assertEqual(wrong_part(kind, 5, last=True), None)
            self.assertEqual(wrong_part(kind, 5, last=False), "last" if kind in CONTROLS else None)
            for last in (0, 1, None, "", "True", [], (), [True], (False,), -1, 2):
                self.assertEqual(wrong_part(kind, 5, last=last), "last", last)

    def test_mask(self):
        wrong = [True, False, 0, 1234, "", "1234", [], (), (1, 2, 3), [1, 2, 3], (1, 2, 3, 4, 5), [1, 2, 3, 4, 5],
                 (1, 2, 3, 256), [1, 2, 3, 256], (-1, 2, 3, 4), (1, True, 3, 4), [1, 2, False, 4], (1, 2, 3, None),
                 (1, "2", 3, 4), [[1, 2, 3, 4]], ((1, 2, 3, 4),), (1, 2, 3, (4,)), [None, None, None, None]]
        for kind, mask in itertools.product(SORTS, wrong):
            self.assertEqual(wrong_part(kind, 0, mask=mask), "mask", mask)
        for kind, mask in itertools.product(SORTS, [None, (0, 0, 0, 0), [0, 0, 0, 0], [255] * 4, (255,) * 4]):
            self.assertEqual(wrong_part(kind, 0, mask=mask), None, mask)

    def test_anything_six_deep_at_each_part(self):
        for thing in things():
            held = copy.deepcopy(thing)
            number = type(thing) is int
            bytes_alone = type(thing) in (list, tuple) and all(map(is_byte, thing))
            self.assertEqual(wrong_part(thing, 1), None if number and thing in SORTS else "kind", thing)
            self.assertEqual(wrong_part(1, thing), None if number and 0 <= thing <= 31 else "talk", thing)
            self.assertEqual(wrong_part(1, 1, thing), None if bytes_alone else "data", thing)
            self.assertEqual(wrong_part(1, 1, last=thing), None if type(thing) is bool else "last", thing)
            can_mask = thing is None or bytes_alone and len(thing) == 4
            self.assertEqual(wrong_part(1, 1, mask=thing), None if can_mask else "mask", thing)
            self.assertTrue(same(thing, held))

    def test_the_first_part_goes(self):
        good = {"kind": 1, "talk": 1, "data": [1], "last": True, "mask": None}
        bad = {"kind": 3, "talk": 32, "data": None, "last": 1, "mask": 0}
        for which in itertools.product((False, True), repeat=5):
            told = {part: (bad if wrong else good)[part] for part, wrong in zip(PARTS, which)}
            wanted = next((part for part, wrong in zip(PARTS, which) if wrong), None)
            self.assertEqual(wrong_part(**told), wanted)

    def test_the_first_part_of_a_control_goes(self):
        self.assertEqual(wrong_part(9, 32, [7] * 121, last=False, mask=1), "talk")
        self.assertEqual(wrong_part(9, 31, [7] * 121, last=False, mask=1), "data")
        self.assertEqual(wrong_part(9, 31, [7] * 120, last=False, mask=1), "last")
        self.assertEqual(wrong_part(9, 31, [7] * 120, last=True, mask=1), "mask")

    def test_the_refusal_is_a_bad_slip(self):
        with self.assertRaises(BadSlip) as held:
            Slip(3, 0)
        self.assertIs(type(held.exception), BadSlip)
        self.assertTrue(same(held.exception.part, "kind"))


class Written(unittest.TestCase):
    def test_worked_slips(self):
        self.assertEqual(Slip(1, 3, (72, 105)).codes(), [33, 3, 2, 72, 105])
        self.assertEqual(Slip(1, 3, (72, 105), last=False).codes(), [1, 3, 2, 72, 105])
        self.assertEqual(Slip(0, 31).codes(), [32, 31, 0])
        self.assertEqual(Slip(0, 31, last=False).codes(), [0, 31, 0])
        self.assertEqual(Slip(2, 0, [0, 0, 0, 0, 5], mask=[1, 2, 3, 4]).codes(), [50, 0, 5, 1, 2, 3, 4, 1, 2, 3, 4, 4])
        self.assertEqual(Slip(8, 7).codes(), [40, 7, 0])
        self.assertEqual(Slip(9, 7, mask=(9, 9, 9, 9)).codes(), [57, 7, 0, 9, 9, 9, 9])
        self.assertEqual(Slip(10, 7, [1]).codes(), [42, 7, 1, 1])

    def test_codes_and_len(self):
        for case in cases():
            slip, row = made(case), written(case)
            codes = slip.codes()
            self.assertIs(type(codes), list)
            self.assertEqual(codes, row)
            self.assertTrue(same(len(slip), len(row)))
            self.assertIs(bool(slip), True)

    def test_a_told_list_is_the_askers_own(self):
        for case in cases():
            slip = made(case)
            told = slip.codes()
            told[0] = 99
            told.append(1)
            self.assertEqual(slip.codes(), written(case))
            self.assertIsNot(slip.codes(), slip.codes())
            self.assertTrue(same(fields(slip), case))

    def test_str_and_repr(self):
        self.assertEqual(str(Slip(1, 3, [1] * 5)), "words 3 last 5")
        self.assertEqual(str(Slip(9, 0, [1] * 2, mask=(1, 2, 3, 4))), "bell 0 masked 2")
        self.assertEqual(repr(Slip(9, 0, [1] * 2, mask=(1, 2, 3, 4))), "<bell 0 masked 2>")
        self.assertEqual(str(Slip(0, 31, last=False, mask=(0, 0, 0, 0))), "more 31 masked 0")
        self.assertEqual(str(Slip(2, 0, last=True, mask=(0, 0, 0, 0))), "bytes 0 last masked 0")
        self.assertEqual(str(Slip(8, 12)), "end 12 0")
        for case in cases():
            kind, talk, data, last, mask = case
            words = [SORTS[kind], str(talk)]
            words += ["last"] if last and kind not in CONTROLS else []
            words += ["masked"] if mask is not None else []
            shown = " ".join(words + [str(len(data))])
            self.assertEqual(str(made(case)), shown)
            self.assertEqual(repr(made(case)), "<" + shown + ">")

    def test_like_and_unlike(self):
        rows = [case for case in cases() if len(case[2]) in (0, 1, 2) and case[1] != 31]
        rows += [(1, 0, (5,), True, None), (1, 0, (5, 0), True, None), (2, 0, (), True, (1, 2, 3, 5))]
        for one, other in itertools.product(rows, rows):
            self.assertIs(made(one) == made(other), one == other)
            self.assertIs(made(one) != made(other), one != other)

    def test_like_slips_of_great_data(self):
        for size in (249, 250, 65_536, 70_200):
            data = list(data_of(size))
            slip = Slip(2, 1, data)
            self.assertIs(slip == Slip(2, 1, tuple(data)), True)
            data[-1] ^= 1
            self.assertIs(slip == Slip(2, 1, data), False)

    def test_like_nothing_of_another_class(self):
        slip = Slip(1, 3, [72])
        for thing in [None, True, False, 0, 4, "", str(slip), repr(slip), slip.codes(), tuple(slip.codes()), slip.data,
                      fields(slip), list(fields(slip)), (slip,), [slip], BadSlip("kind"), object()]:
            self.assertIs(slip == thing, False, thing)
            self.assertIs(thing == slip, False, thing)
            self.assertIs(slip != thing, True, thing)
            self.assertIs(thing != slip, True, thing)


class SlipAt(unittest.TestCase):
    def test_each_slip_with_bytes_ahead_and_behind(self):
        for case in cases():
            row, masks = written(case), case[4] is not None
            for ahead, behind in (([], []), ([255, 64], [255]), ([0], [0] * 3)):
                told = slip_at(ahead + row + behind, len(ahead), masks=masks)
                self.assertIs(type(told), tuple)
                slip, place = told
                self.assertIs(type(slip), Slip)
                self.assertTrue(same(fields(slip), case), case[:2])
                self.assertTrue(same(place, len(ahead) + len(row)))
                self.assertEqual(slip, made(case))

    def test_one_behind_the_other(self):
        for masks in (False, True):
            rows = [case for case in cases() if (case[4] is not None) == masks and len(case[2]) < 300]
            codes = [byte for case in rows for byte in written(case)]
            at = 0
            for case in rows:
                slip, at = slip_at(codes, at, masks=masks)
                self.assertEqual(fields(slip), case)
            self.assertEqual(at, len(codes))
            self.assertIsNone(slip_at(codes, at, masks=masks))

    def test_a_tuple_is_the_same(self):
        for case in cases():
            row = tuple(written(case))
            told = slip_at((7,) + row, 1, masks=case[4] is not None)
            self.assertTrue(same((fields(told[0]), told[1]), (case, 1 + len(row))))

    def test_none_of_every_beginning(self):
        for case in cases():
            if len(case[2]) > 300 or case[1] == 0:
                continue
            row = written(case)
            for many in range(len(row)):
                self.assertIsNone(slip_at(row[:many], 0, masks=case[4] is not None), (case, many))
                self.assertIsNone(slip_at([9, 9] + row[:many], 2, masks=case[4] is not None), (case, many))

    def test_none_of_beginnings_of_great_ones(self):
        for size, mask in itertools.product((65_535, 65_536, 70_200), (None, (1, 2, 3, 4))):
            row = written((2, 0, data_of(size), True, mask))
            for many in [*range(12), 70, 256, len(row) - 4, len(row) - 1]:
                self.assertIsNone(slip_at(row[:many], 0, masks=mask is not None))

    def test_all_heads(self):
        for head, masks in itertools.product(range(256), (False, True)):
            sort, is_last = head % 16, head // 32 % 2 == 1
            goes = head <= 63 and sort in SORTS and (head // 16 % 2 == 1) == masks
            goes = goes and (is_last or sort not in CONTROLS)
            for ahead, rest in itertools.product(([], [1, 2]), ([], [32], [31, 255], [3, 0, 5, 6, 7, 8])):
                told = told_at(ahead + [head] + rest, len(ahead), masks)
                if not goes:
                    self.assertEqual(told, (10, len(ahead)), head)
                elif rest == []:
                    self.assertIsNone(told, head)
                elif rest == [32]:
                    self.assertEqual(told, (11, len(ahead) + 1), head)
                elif rest == [31, 255]:
                    self.assertEqual(told, (12, len(ahead) + 2), head)
                else:
                    mask = (5, 6, 7, 8) if masks else None
                    self.assertEqual(fields(told[0]), (sort, 3, (), is_last, mask))
                    self.assertEqual(told[1], len(ahead) + (7 if masks else 3))

    def test_all_talks(self):
        for talk, kind, masks in itertools.product(range(256), SORTS, (False, True)):
            head = kind + 32 + 16 * masks
            for rest in ([], [0, 1, 2, 3, 4], [252]):
                told = told_at([head, talk] + rest, 0, masks)
                if talk > 31:
                    self.assertEqual(told, (11, 1))
                elif rest == []:
                    self.assertIsNone(told)
                elif rest == [252]:
                    self.assertEqual(told, (12, 2))
                else:
                    self.assertEqual((told[0].talk, told[1]), (talk, 7 if masks else 3))

    def test_sizes_by_their_first_byte(self):
        for first, kind, masks in itertools.product(range(256), SORTS, (False, True)):
            front = [9, kind + 32 + 16 * masks, 0, first]
            if first > (120 if kind in CONTROLS else 251):
                for rest in ([], [0], [1, 1, 1, 1]):
                    self.assertEqual(told_at(front + rest, 1, masks), (12, 3), (first, kind))
            else:
                self.assertEqual(told_at(front, 1, masks), None if first or masks else (Slip(kind, 0), 4))
            if first < 250 and (kind not in CONTROLS or first <= 120):
                slip, behind = slip_at(front + [0] * (first + 4), 1, masks=masks)
                self.assertEqual((len(slip.data), behind), (first, 4 + 4 * masks + first))

    def test_sizes_at_their_second_bytes(self):
        for masks in (False, True):
            front = [34 + 16 * masks, 0]
            self.assertIsNone(told_at(front + [250, 0], 0, masks))
            self.assertEqual(told_at(front + [250, 0, 249], 0, masks), (12, 4))
            self.assertIsNone(told_at(front + [250, 0, 250], 0, masks))
            self.assertEqual(told_at(front + [251, 0], 0, masks), (12, 3))
            self.assertIsNone(told_at(front + [251, 1, 0, 0], 0, masks))

    def test_the_refusal_is_a_fault(self):
        with self.assertRaises(Fault) as held:
            slip_at([0, 0, 0, 64], 3, masks=False)
        self.assertIs(type(held.exception), Fault)
        self.assertTrue(same((held.exception.code, held.exception.at), (10, 3)))

    def test_by_names(self):
        self.assertEqual(slip_at(masks=False, at=1, codes=[7, 41, 2, 0]), (Slip(9, 2), 4))
        self.assertEqual(slip_at([41, 2, 0], at=0, masks=False), (Slip(9, 2), 3))
        with self.assertRaises(TypeError):
            slip_at([41, 2, 0], 0, False)
        with self.assertRaises(TypeError):
            slip_at([41, 2, 0], 0)

    def test_what_is_handed_in_is_neither_changed_nor_kept(self):
        for masks in (False, True):
            codes = [34 + 16 * masks, 2, 3, 1, 2, 3, 4, 5, 6, 7]
            held = list(codes)
            slip, behind = slip_at(codes, 0, masks=masks)
            self.assertTrue(same(codes, held))
            codes[3:] = [0] * 7
            self.assertEqual(slip.codes(), held[:behind])


if __name__ == "__main__":
    unittest.main()

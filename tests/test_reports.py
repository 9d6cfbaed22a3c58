"""Point [12]: reports of bytes, by worked rows and beside the plain reading."""

import itertools
import random
import unittest

from draws import any_codes, bent
from plain import Plain, rows, slip_row
from slipwire.errors import Fault
from slipwire.masks import mask_of
from slipwire.reading import events_of
from slipwire.reports import fault_of, remasked, report, shows_fault, shows_report, whole_to
from things import same, things

MORE, WORDS, BYTES, END, BELL, ECHO = 0, 1, 2, 8, 9, 10
PARTS = ("head", "talk", "size", "mask", "data")

# A row of bytes for each fault, that stands at its last byte; those of 13 and 15 with slips that aren't masked.
FAULTY = {10: [[64], [3], [8], [16]], 11: [[33, 32], [41, 255]],
          12: [[33, 3, 252], [34, 3, 250, 0, 249], [34, 3, 251, 0], [41, 3, 121]],
          13: [[32, 3], [1, 3, 0, 2, 3], [40, 3, 0, 41, 3]],
          14: [[33, 3, 9, 65, 255], [33, 3, 1, 226], [1, 3, 1, 226, 32, 3, 0], [40, 3, 3, 0, 1, 226]],
          15: [[34, 3, 11], [34, 3, 250, 1, 0], [34, 3, 251, 1, 0, 0], [2, 3, 1, 5, 32, 3, 10]],
          16: [[40, 3, 1], [40, 3, 2, 1], [40, 3, 2, 0, 0], [40, 3, 2, 0, 200]]}


def plain_spans(codes, masks, far):
    """The spans of the first far bytes, by walking from head to head, and where each slip ends among them."""
    spans, ends, at = [], [], 0
    while at < far:
        first = (codes + [0] * 9)[at + 2]
        long = {250: 3, 251: 4}.get(first, 1)
        size = first if long == 1 else int.from_bytes(bytes((codes + [0] * 9)[at + 3:at + 2 + long]), "big")
        for word, many in zip(PARTS, (1, 1, long, 4 * masks, size)):
            if many and at < far:
                spans.append((at, word, min(many, far - at)))
            at += many
        ends += [at] if at <= far else []
    return spans, ends


def plain_whole(codes, masks, most):
    plain = Plain(codes, masks, most)
    far = plain.far if plain.fault is None else plain.fault[1]
    _, ends = plain_spans(codes, masks, far)
    return max([0] + [end for end in ends if not Plain(codes[:end], masks, most).begun()])


def fault_told(codes, mask, **more):
    try:
        return remasked(codes, mask, **more)
    except Fault as refusal:
        return refusal.code, refusal.at


class Reports(unittest.TestCase):
    def assert_report(self, codes, spans, masks=False, most=4096):
        told = report(codes, masks=masks, most=most)
        self.assertTrue(same(told, spans), (codes[:40], told))
        self.assertTrue(same(report(tuple(codes), masks=masks, most=most), spans))
        # Each byte that is read stands in it just once, rising.
        places = [at + step for at, _, many in told for step in range(many)]
        self.assertEqual(places, list(range(Plain(list(codes), masks, most).far)))
        self.assertIs(shows_report(codes, spans, masks=masks, most=most), True)

    def test_none(self):
        for masks in (False, True):
            self.assert_report([], [], masks)

    def test_worked_slips(self):
        self.assert_report([33, 3, 2, 72, 105], [(0, "head", 1), (1, "talk", 1), (2, "size", 1), (3, "data", 2)])
        self.assert_report([49, 3, 2, 1, 2, 3, 4, 73, 107],
                           [(0, "head", 1), (1, "talk", 1), (2, "size", 1), (3, "mask", 4), (7, "data", 2)], True)
        self.assert_report([41, 3, 0, 42, 3, 1, 5], [(0, "head", 1), (1, "talk", 1), (2, "size", 1), (3, "head", 1),
                                                     (4, "talk", 1), (5, "size", 1), (6, "data", 1)])
        self.assert_report([57, 3, 0, 1, 2, 3, 4],
                           [(0, "head", 1), (1, "talk", 1), (2, "size", 1), (3, "mask", 4)], True)

    def test_sizes_of_one_three_and_four_bytes(self):
        for size, long in ((0, 1), (249, 1), (250, 3), (2900, 3), (65_536, 4)):
            for masks in (False, True):
                spans = [(0, "head", 1), (1, "talk", 1), (2, "size", long)]
                behind = 2 + long
                if masks:
                    spans.append((behind, "mask", 4))
                    behind += 4
                spans += [(behind, "data", size)] if size else []
                codes = rows((BYTES, 3, [5] * size), masks=masks)
                self.assert_report(codes, spans, masks, 70_000)
                begun = codes + [41 + 16 * masks]
                self.assert_report(begun, spans + [(len(codes), "head", 1)], masks, 70_000)

    def test_slips_of_all_sorts(self):
        slips = [(WORDS, 3, [226], False), (BELL, 4, [1, 2]), (MORE, 3, [130], False), (ECHO, 5), (MORE, 3, [172]),
                 (BYTES, 31, [], False), (END, 6), (END, 7, [0, 1, 65])]
        for masks in (False, True):
            spans, at = [], 0
            for kind, talk, *rest in slips:
                size = len((rest or [[]])[0])
                for word, many in zip(PARTS, (1, 1, 1, 4 * masks, size)):
                    spans += [(at, word, many)] if many else []
                    at += many
            self.assert_report(rows(*slips, masks=masks), spans, masks)

    def test_bytes_that_end_within_each_part(self):
        for masks in (False, True):
            codes = rows((BELL, 3), (BYTES, 3, [5] * 300), (WORDS, 4, [65, 66], False), masks=masks)
            whole = report(codes, masks=masks)
            for many in range(len(codes)):
                spans = [(at, word, min(span, many - at)) for at, word, span in whole if at < many]
                self.assert_report(codes[:many], spans, masks)

    def test_each_fault(self):
        for code, wrongs in FAULTY.items():
            for wrong, behind in itertools.product(wrongs, ([], [0], [41, 0, 0], [255] * 20)):
                self.assertEqual(fault_of(wrong + behind, masks=False, most=10), (code, len(wrong) - 1))
                spans = plain_spans(wrong, False, len(wrong))[0]
                self.assert_report(wrong + behind, spans, most=10)
                self.assertEqual(sum(spans[-1][::2]), len(wrong))

    def test_the_part_in_which_a_fault_stands(self):
        for codes, word in (([64], "head"), ([33, 32], "talk"), ([32, 3], "talk"), ([33, 3, 255], "size"),
                            ([34, 3, 251, 0], "size"), ([33, 3, 2, 65, 255], "data"), ([40, 3, 1], "size")):
            self.assertEqual(report(codes + [9, 9], masks=False)[-1][1], word)
        # A last slip without data, where a sign is begun: the mask's last byte.
        codes = [17, 3, 1, 0, 0, 0, 0, 226, 48, 3, 0, 1, 2, 3, 4, 9]
        self.assertEqual(report(codes, masks=True)[-1], (11, "mask", 4))

    def test_nothing_behind_an_end_of_a_faults_code(self):
        for code, masks in itertools.product(range(10, 17), (False, True)):
            codes = rows((BELL, 3), (END, 4, [0, code, 65]), masks=masks)
            spans = report(codes, masks=masks)
            for behind in ([255], rows((BELL, 3), masks=masks), [0] * 30):
                self.assert_report(codes + behind, spans, masks)

    def test_beside_the_plain_reading(self):
        draw = random.Random(50)
        for number in range(3000):
            masks, most = number % 2 == 1, draw.choice([2, 5, 30, 4096])
            codes = any_codes(draw, masks)
            codes = bent(draw, codes) if number % 3 else codes
            codes = codes[:draw.randrange(len(codes) + 1)] if number % 5 == 0 else codes
            plain = Plain(codes, masks, most)
            self.assertTrue(same(report(codes, masks=masks, most=most), plain_spans(codes, masks, plain.far)[0]))
            self.assertTrue(same(fault_of(codes, masks=masks, most=most), plain.fault))
            self.assertTrue(same(whole_to(codes, masks=masks, most=most), plain_whole(codes, masks, most)))
            self.assertIs(shows_fault(codes, plain.fault, masks=masks, most=most), plain.fault is not None)


class ShowsReport(unittest.TestCase):
    CODES = [33, 3, 2, 72, 105, 41, 0, 0]
    SPANS = [(0, "head", 1), (1, "talk", 1), (2, "size", 1), (3, "data", 2), (5, "head", 1), (6, "talk", 1),
             (7, "size", 1)]

    def shows(self, thing, codes=None, **more):
        return shows_report(self.CODES if codes is None else codes, thing, **{"masks": False, **more})

    def test_that_list(self):
        self.assertIs(self.shows(list(self.SPANS)), True)
        self.assertIs(self.shows(report(self.CODES, masks=False)), True)
        self.assertIs(self.shows([], codes=[]), True)

    def test_a_part_otherwise(self):
        for place, (at, word, many) in enumerate(self.SPANS):
            others = [(at + 1, word, many), (at - 1, word, many), (at, word, many + 1), (at, word, 0), (at, word, -1),
                      (at, "mask", many), (at, "", many), (at, word.upper(), many), (at, [word], many),
                      [at, word, many], (at, word), (at, word, many, 0), (at, many, word), (), None, at, word,
                      ((at, word, many),), (str(at), word, many), (at, word, str(many)), (at, word, None)]
            for other in others:
                if not same(other, (at, word, many)):
                    self.assertIs(self.shows(self.SPANS[:place] + [other] + self.SPANS[place + 1:]), False, other)

    def test_truths_are_no_numbers(self):
        for place in (0, 1, 2):
            at, word, many = self.SPANS[place]
            for other in ((at, word, True), (bool(at), word, many)):
                self.assertIs(self.shows(self.SPANS[:place] + [other] + self.SPANS[place + 1:]), False, other)

    def test_left_out_twice_parted_or_exchanged(self):
        for place, span in enumerate(self.SPANS):
            self.assertIs(self.shows(self.SPANS[:place] + self.SPANS[place + 1:]), False)
            self.assertIs(self.shows(self.SPANS[:place] + [span] + self.SPANS[place:]), False)
        self.assertIs(self.shows(self.SPANS[:3] + [(3, "data", 1), (4, "data", 1)] + self.SPANS[4:]), False)
        self.assertIs(self.shows(self.SPANS[:3] + [(3, "mask", 0)] + self.SPANS[3:]), False)
        self.assertIs(self.shows(self.SPANS[::-1]), False)
        self.assertIs(self.shows(self.SPANS + [(8, "data", 0)]), False)

    def test_the_whole_a_tuple_or_another_thing(self):
        self.assertIs(self.shows(tuple(self.SPANS)), False)
        self.assertIs(self.shows([self.SPANS]), False)
        self.assertIs(self.shows((), codes=[]), False)
        for thing in things():
            self.assertIs(self.shows(thing), False, thing)
            self.assertIs(self.shows(thing, codes=[]), same(thing, []), thing)
            self.assertIs(self.shows([thing], codes=[64]), False, thing)

    def test_masks_and_most(self):
        self.assertIs(self.shows([(0, "head", 1)], masks=True), True)
        self.assertIs(self.shows(self.SPANS, masks=True), False)
        self.assertIs(self.shows(self.SPANS[:3], most=1), True)
        self.assertIs(self.shows(self.SPANS, most=1), False)


class Faults(unittest.TestCase):
    def test_fault_of_each(self):
        for code, wrongs in FAULTY.items():
            for wrong in wrongs:
                pair = (code, len(wrong) - 1)
                self.assertTrue(same(fault_of(wrong, masks=False, most=10), pair))
                self.assertTrue(same(fault_of(tuple(wrong) + (7,), masks=False, most=10), pair))
                self.assertIs(shows_fault(wrong, pair, masks=False, most=10), True)
                self.assertIsNone(fault_of(wrong[:-1], masks=False, most=10))

    def test_none_where_there_is_none(self):
        for codes in ([], [33], rows((WORDS, 3, [65], False)), rows((END, 3, [0, 12])) + [255, 255]):
            self.assertIsNone(fault_of(codes, masks=False))
            for thing in (None, (10, 0), (0, 0), (), [], False, (None, None)):
                self.assertIs(shows_fault(codes, thing, masks=False), False)

    def test_shows_that_pair_alone(self):
        codes = [33, 3, 0, 32, 1]
        self.assertIs(shows_fault(codes, (13, 4), masks=False), True)
        for thing in ([13, 4], (13, 3), (13, 5), (12, 4), (4, 13), (13,), (13, 4, 0), ((13, 4),), [(13, 4)], None, 13,
                      "(13, 4)", ("13", 4), (13, "4"), (13, None), (True, 4), (13, [4]), True, False):
            self.assertIs(shows_fault(codes, thing, masks=False), False, thing)
        self.assertIs(shows_fault([64, 1], (10, 0), masks=False), True)
        self.assertIs(shows_fault([64, 1], (10, False), masks=False), False)
        self.assertIs(shows_fault([33, 32], (11, 1), masks=False), True)
        self.assertIs(shows_fault([33, 32], (11, True), masks=False), False)
        for thing in things():
            self.assertIs(shows_fault(codes, thing, masks=False), False, thing)

    def test_the_first_alone(self):
        self.assertIs(shows_fault([64, 64], (10, 1), masks=False), False)

    def test_masks_and_most(self):
        self.assertEqual(fault_of([33, 3, 2, 72, 105], masks=True), (10, 0))
        self.assertEqual(fault_of([33, 3, 2, 72, 105], masks=False, most=1), (15, 2))
        self.assertIs(shows_fault([33, 3, 2], (15, 2), masks=False, most=1), True)
        self.assertIs(shows_fault([33, 3, 2], (15, 2), masks=False), False)
        self.assertIsNone(fault_of(rows((BYTES, 3, [1] * 2900)), masks=False))


class WholeTo(unittest.TestCase):
    def assert_behind(self, *steps):
        """Slips, each with whether all is whole behind it; with every number of bytes of them."""
        for masks in (False, True):
            codes, wanted = [], [0]
            for number, (slip, is_whole) in enumerate(steps):
                row = rows(*[one for one, _ in steps[:number + 1]], masks=masks)
                wanted += [wanted[-1]] * (len(row) - len(codes) - 1) + [len(row) if is_whole else wanted[-1]]
                codes = row
            for many, far in enumerate(wanted):
                self.assertTrue(same(whole_to(codes[:many], masks=masks), far), (many, far))
                self.assertTrue(same(whole_to(tuple(codes[:many]), masks=masks), far))

    def test_nought_at_the_least(self):
        for codes in ([], [33], [64], [33, 3], rows((WORDS, 3, [65], False)), [255] * 9):
            self.assertTrue(same(whole_to(codes, masks=False), 0))

    def test_letters_and_controls(self):
        self.assert_behind(((BELL, 3, [1]), True), ((WORDS, 3, [72]), True), ((ECHO, 0), True), ((END, 3), True))

    def test_letters_begun_in_one_talk_and_in_several(self):
        self.assert_behind(((BYTES, 1), True), ((WORDS, 3, [72], False), False), ((BELL, 3), False),
                           ((MORE, 3, [], False), False), ((BYTES, 4, [1], False), False), ((MORE, 3, [73]), False),
                           ((ECHO, 9), False), ((MORE, 4), True), ((BYTES, 4, [], False), False))

    def test_an_end_of_a_talk_with_a_letter_begun(self):
        self.assert_behind(((WORDS, 3, [72], False), False), ((BYTES, 4, [1], False), False), ((END, 3, [0, 5]), False),
                           ((END, 4), True), ((BELL, 5), True))

    def test_an_end_of_a_faults_code_is_among_them(self):
        for code, masks in itertools.product(range(10, 17), (False, True)):
            codes = rows((BELL, 1), (END, 3, [0, code]), masks=masks)
            for behind in ([], [255], rows((BELL, 1), masks=masks), [0] * 9):
                self.assertEqual(whole_to(codes + behind, masks=masks), len(codes))
            codes = rows((BELL, 1), (WORDS, 4, [65], False), (END, 3, [0, code]), (MORE, 4), masks=masks)
            self.assertEqual(whole_to(codes, masks=masks), len(rows((BELL, 1), masks=masks)))
            codes = rows((BELL, 1), (WORDS, 3, [65], False), (END, 3, [0, code]), masks=masks)
            self.assertEqual(whole_to(codes + [255], masks=masks), len(codes))

    def test_ahead_of_a_fault(self):
        ahead = rows((BELL, 1), (WORDS, 8, [65]))
        for wrong in [one for code in FAULTY for one in FAULTY[code]]:
            whole = 3 if wrong[:3] == [40, 3, 0] else 0
            self.assertEqual(whole_to(wrong + [41, 0, 0], masks=False, most=10), whole)
            self.assertEqual(whole_to(ahead + wrong + [41, 0, 0], masks=False, most=10), len(ahead) + whole)

    def test_most(self):
        codes = rows((BYTES, 1, [1, 2]), (BYTES, 1, [1, 2, 3]))
        self.assertEqual([whole_to(codes, masks=False, most=most) for most in (1, 2, 3)], [0, 5, 11])


class Remasked(unittest.TestCase):
    SLIPS = [(WORDS, 3, [226], False), (BELL, 4, [1, 2]), (MORE, 3, [130], False), (ECHO, 5), (MORE, 3, [172]),
             (BYTES, 31, [7] * 300, False), (END, 6), (END, 7, [0, 1, 65])]

    def by_number(self, mask):
        codes = []
        for number, (kind, talk, *rest) in enumerate(self.SLIPS):
            data, last = (rest + [(), True][len(rest):])
            codes += slip_row(kind, talk, data, last=last, mask=mask_of(mask, number))
        return codes

    def test_masked_by_number(self):
        plain = rows(*self.SLIPS)
        for mask in ((1, 2, 3, 4), [250, 251, 252, 253], (0, 0, 0, 0)):
            self.assertTrue(same(remasked(plain, mask, masks=False), self.by_number(mask)))
            self.assertTrue(same(remasked(tuple(plain), mask, masks=False), self.by_number(mask)))

    def test_unmasked_whatever_the_masks_were(self):
        for mask in ((1, 2, 3, 4), (9, 9, 9, 9)):
            self.assertTrue(same(remasked(rows(*self.SLIPS, masks=True), mask, masks=True), rows(*self.SLIPS)))
            self.assertTrue(same(remasked(self.by_number(mask), [0] * 4, masks=True), rows(*self.SLIPS)))

    def test_there_and_back(self):
        draw = random.Random(51)
        for number in range(1500):
            masks, mask = number % 2 == 1, tuple(draw.randrange(256) for _ in range(4))
            codes = any_codes(draw, masks)
            if fault_of(codes, masks=masks) is not None:
                continue
            other = remasked(codes, mask, masks=masks)
            self.assertEqual(events_of(other, masks=not masks), events_of(codes, masks=masks))
            again = remasked(other, mask, masks=not masks)
            if not masks:
                far = Plain(codes, masks, 4096).far
                self.assertEqual(again, codes[:far])
            self.assertEqual(remasked(again, mask, masks=masks), other)

    def test_none(self):
        for masks in (False, True):
            self.assertTrue(same(remasked([], (1, 2, 3, 4), masks=masks), []))

    def test_behind_an_end_of_a_faults_code_nothing(self):
        for code, masks in itertools.product(range(10, 17), (False, True)):
            slips = [(BYTES, 2, [5], False), (END, 4, [0, code, 65])]
            wanted = remasked(rows(*slips, masks=masks), (1, 2, 3, 4), masks=masks)
            self.assertEqual(len(wanted), len(rows(*slips, masks=not masks)))
            for behind in ([255], [41], rows((BELL, 3), masks=masks), [0] * 30):
                self.assertEqual(remasked(rows(*slips, masks=masks) + behind, (1, 2, 3, 4), masks=masks), wanted)

    def test_faults_as_the_reader(self):
        for code, wrongs in FAULTY.items():
            for wrong, behind in itertools.product(wrongs, ([], [0], [255] * 9)):
                told = fault_told(wrong + behind, (1, 2, 3, 4), masks=False, most=10)
                self.assertTrue(same(told, (code, len(wrong) - 1)))
                ahead = rows((BELL, 9), (BYTES, 8, [7], False))
                told = fault_told(ahead + wrong + behind, (1, 2, 3, 4), masks=False, most=10)
                self.assertEqual(told, (code, len(ahead) + len(wrong) - 1))
        self.assertEqual(fault_told([33, 3, 0], (1, 2, 3, 4), masks=True), (10, 0))

    def test_12_where_they_end_within_a_slip(self):
        for masks in (False, True):
            codes = rows(*self.SLIPS, masks=masks)
            ends = plain_spans(codes, masks, len(codes))[1]
            for many in range(len(codes) + 1):
                told = fault_told(codes[:many], (1, 2, 3, 4), masks=masks)
                if many in [0] + ends:
                    self.assertIs(type(told), list)
                else:
                    self.assertTrue(same(told, (12, many)))

    def test_most(self):
        codes = rows((BYTES, 3, [1, 2, 3]))
        self.assertEqual(fault_told(codes, (1, 2, 3, 4), masks=False, most=2), (15, 2))
        self.assertEqual(len(fault_told(codes, (1, 2, 3, 4), masks=False, most=3)), 10)


class Handed(unittest.TestCase):
    def test_by_names(self):
        codes = rows((BYTES, 3, [1, 2]))
        self.assertEqual(report(most=1, masks=False, codes=codes), [(0, "head", 1), (1, "talk", 1), (2, "size", 1)])
        self.assertIs(shows_report(thing=[], codes=[], most=1, masks=False), True)
        self.assertEqual(fault_of(codes=codes, most=1, masks=False), (15, 2))
        self.assertIs(shows_fault(most=1, masks=False, thing=(15, 2), codes=codes), True)
        self.assertEqual(whole_to(codes=codes, masks=False, most=5), 5)
        self.assertEqual(remasked(mask=(0, 0, 0, 0), codes=codes, masks=False, most=9), [50, 3, 2, 0, 0, 0, 0, 1, 2])
        for wrong in (lambda: report([], False), lambda: report([]), lambda: fault_of([], False), lambda: whole_to([]),
                      lambda: shows_report([], [], False), lambda: remasked([], (1, 2, 3, 4))):
            self.assertRaises(TypeError, wrong)

    def test_what_is_handed_in_is_not_changed(self):
        codes, mask = rows((BYTES, 3, [1, 2]), (BELL, 0)), [1, 2, 3, 4]
        spans = report(codes, masks=False)
        held = list(codes), list(mask), list(spans)
        shows_report(codes, spans, masks=False)
        fault_of(codes, masks=False)
        whole_to(codes, masks=False)
        told = remasked(codes, mask, masks=False)
        self.assertTrue(same((codes, mask, spans), held))
        told.clear()
        spans.clear()
        self.assertTrue(same(report(codes, masks=False), held[2]))
        self.assertEqual(len(remasked(codes, mask, masks=False)), len(codes) + 8)

    def test_3000_bytes(self):
        codes = rows(*[(BYTES, 1, [5] * 7)] * 300)
        self.assertEqual(len(codes), 3000)
        self.assertEqual(len(report(codes, masks=False)), 1200)
        self.assertEqual(whole_to(codes, masks=False), 3000)


if __name__ == "__main__":
    unittest.main()

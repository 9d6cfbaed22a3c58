"""Points [8] and [1]: Reader and events_of beside the plain reading, by many rows of bytes, cut anyhow."""

import random
import unittest

from draws import ODD_BYTES, SIGNS, any_codes, bent, pieces_of
from plain import Plain, as_utf8, slip_row
from slipwire.reading import Reader, events_of
from things import same


class Rows(unittest.TestCase):
    def assert_as_plain(self, reader, events, plain):
        wanted = (plain.events, plain.begun(), sorted(plain.ended), plain.far, plain.fault)
        told = (events, reader.begun(), reader.ended(), reader.how_far(), reader.fault())
        self.assertTrue(same(told, wanted), (plain.codes, plain.masks, plain.most, told, wanted))

    def check(self, draw, codes, masks, most):
        reader, told, far = Reader(masks, most=most), [], 0
        for piece in pieces_of(draw, codes):
            told += reader.put(piece)
            far += len(piece)
            self.assert_as_plain(reader, told, Plain(codes[:far], masks, most))
            if draw.random() < 0.1:
                reader = reader.twin()
        whole = Reader(masks, most=most)
        self.assert_as_plain(whole, whole.put(codes), Plain(codes, masks, most))
        self.assertTrue(same(events_of(codes, masks=masks, most=most), told))
        return told

    def test_rows_of_slips_bent_and_not(self):
        draw = random.Random(20)
        faults, words = {}, {}
        for number in range(6000):
            masks = number % 2 == 1
            codes = any_codes(draw, masks)
            if number % 3:
                codes = bent(draw, codes)
            for event in self.check(draw, codes, masks, draw.choice([2, 5, 30, 4096])):
                words[event[0]] = words.get(event[0], 0) + 1
                if event[0] == "fault":
                    faults[event[1]] = faults.get(event[1], 0) + 1
        # The rows are of use only where they bring each event and each fault.
        self.assertEqual(sorted(words), ["bell", "echo", "end", "fault", "letter"])
        self.assertEqual(sorted(faults), [10, 11, 12, 13, 14, 15, 16])
        self.assertGreater(min(faults.values()), 20, faults)

    def test_rows_of_odd_bytes(self):
        draw = random.Random(21)
        for number in range(6000):
            codes = [draw.choice(ODD_BYTES) for _ in range(draw.randrange(12))]
            self.check(draw, codes, number % 2 == 1, draw.choice([1, 2, 300, 70_000]))

    def test_a_fault_is_at_the_first_byte_at_which_it_cannot_go_on(self):
        draw = random.Random(22)
        for number in range(1500):
            masks = number % 2 == 1
            codes = bent(draw, any_codes(draw, masks))
            events = events_of(codes, masks=masks, most=20)
            if events and events[-1][0] == "fault":
                at = events[-1][2]
                self.assertEqual(events_of(codes[:at], masks=masks, most=20), events[:-1])
                self.assertEqual(events_of(codes[:at + 1], masks=masks, most=20), events)
                self.assertEqual(events_of(codes[:at + 1] + [0] * 9, masks=masks, most=20), events)

    def test_a_letter_cut_anyhow_comes_whole(self):
        draw = random.Random(23)
        words = [SIGNS[place % len(SIGNS)] for place in range(1000)]
        data = as_utf8(words)
        for number in range(30):
            codes, at = [], 0
            mask = [draw.randrange(256) for _ in range(4)] if number % 2 else None
            while at < len(data):
                many = draw.choice([0, 1, 2, 3, 100, 300])
                last = at + many >= len(data)
                codes += slip_row(0 if codes else 1, 7, data[at:at + many], last=last, mask=mask)
                at += many
            for size in (1, 17, len(codes)):
                reader, told = Reader(mask is not None), []
                for begin in range(0, len(codes), size):
                    told += reader.put(codes[begin:begin + size])
                self.assertTrue(same(told, [("letter", 7, "words", words)]))

    def test_70200_bytes_of_slips(self):
        codes = slip_row(9, 1, [5] * 6) * 7800
        self.assertEqual(len(codes), 70_200)
        self.assertEqual(events_of(codes, masks=False), [("bell", 1, [5] * 6)] * 7800)
        reader = Reader(False)
        self.assertEqual([event for byte in codes for event in reader.put([byte])], [("bell", 1, [5] * 6)] * 7800)


if __name__ == "__main__":
    unittest.main()

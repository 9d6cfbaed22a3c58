"""Point [13]: dumps, and events as texts."""

import random
import unittest

from slipwire.dumps import dump, dumped_in, event_text
from slipwire.errors import BadRow
from slipwire.reading import events_of
from things import same


def told_of(text):
    """The bytes, or the number of the row for which it's refused."""
    try:
        return dumped_in(text)
    except BadRow as refusal:
        return refusal.row


class Dump(unittest.TestCase):
    def test_worked_rows(self):
        self.assertTrue(same(dump([]), ""))
        self.assertTrue(same(dump([0]), "00"))
        self.assertEqual(dump([10, 255, 16, 1]), "0a ff 10 01")
        self.assertEqual(dump(range(16)), "00 01 02 03 04 05 06 07 08 09 0a 0b 0c 0d 0e 0f")
        self.assertEqual(dump(list(range(17))), "00 01 02 03 04 05 06 07 08 09 0a 0b 0c 0d 0e 0f\n10")
        self.assertEqual(dump([171] * 33), "\n".join([" ".join(["ab"] * 16)] * 2 + ["ab"]))

    def test_each_byte(self):
        for byte in range(256):
            self.assertEqual(dump([byte]), bytes([byte]).hex())
            self.assertEqual(dumped_in(bytes([byte]).hex()), [byte])

    def test_there_and_back(self):
        draw = random.Random(60)
        for many in [*range(50), 255, 256, 257, 3000]:
            codes = [draw.randrange(256) for _ in range(many)]
            text = dump(codes)
            self.assertTrue(same(dumped_in(text), codes))
            self.assertEqual(dump(tuple(codes)), text)
            self.assertEqual([len(row.split(" ")) for row in text.split("\n")],
                             [16] * (many // 16) + ([many % 16] if many % 16 else []) or [1])

    def test_what_is_handed_in_is_not_changed(self):
        codes = [1, 2, 3]
        dump(codes=codes)
        self.assertEqual(codes, [1, 2, 3])
        told = dumped_in(text="01 02")
        told.append(3)
        self.assertTrue(same(dumped_in("01 02"), [1, 2]))


class DumpedIn(unittest.TestCase):
    def test_any_number_in_a_row(self):
        self.assertEqual(told_of("01\n02 03\n" + " ".join(["ff"] * 40)), [1, 2, 3] + [255] * 40)

    def test_empty_rows_are_passed_over(self):
        for text in ("", "\n", "\n\n\n"):
            self.assertTrue(same(told_of(text), []))
        self.assertTrue(same(told_of("\n\n01\n\n02 03\n\n"), [1, 2, 3]))

    def test_a_row_that_is_not_so_written(self):
        for wrong in (" ", "  ", " 01", "01 ", "01  02", "0", "1", "001", "0102", "01,02", "0A", "FF", "aG", "0g",
                      "0x01", "01\t02", "-1", "+1", "1 2", "01 2", "01 02 0", "01 zz 03", "..", "01.", "\t", "a", "abc",
                      "0 1"):
            self.assertTrue(same(told_of(wrong), 0), wrong)
            self.assertTrue(same(told_of("01\n" + wrong), 1), wrong)
            self.assertTrue(same(told_of(wrong + "\n01"), 0), wrong)

    def test_each_sign(self):
        for code in range(32, 127):
            goes = chr(code) in "0123456789abcdef"
            for pair in (chr(code) + "0", "0" + chr(code)):
                self.assertIs(type(told_of(pair)) is list, goes, pair)

    def test_all_rows_are_counted_and_the_first_goes(self):
        self.assertEqual(told_of("\n\n01\n\nx\n"), 4)
        self.assertEqual(told_of("01\n02\n\n03 \ny"), 3)
        self.assertEqual(told_of("\n" * 399 + "z"), 399)

    def test_the_refusal_is_a_bad_row(self):
        with self.assertRaises(BadRow) as held:
            dumped_in("01\n2")
        self.assertIs(type(held.exception), BadRow)
        self.assertTrue(same(held.exception.row, 1))


class EventText(unittest.TestCase):
    EVENTS = [(("letter", 3, "words", [72, 105]), "letter 3 words 72,105"),
              (("letter", 0, "bytes", []), "letter 0 bytes -"),
              (("letter", 31, "words", [8364]), "letter 31 words 8364"), (("bell", 4, []), "bell 4 -"),
              (("bell", 4, [0]), "bell 4 0"), (("echo", 12, [255, 0, 7]), "echo 12 255,0,7"),
              (("echo", 0, []), "echo 0 -"),
              (("end", 0, 1, []), "end 0 1 -"), (("end", 3, 0, []), "end 3 0 -"),
              (("end", 31, 199, [65, 65_535]), "end 31 199 65,65535"), (("fault", 12, 7), "fault 12 7"),
              (("fault", 10, 0), "fault 10 0")]

    def test_each_sort(self):
        for event, text in self.EVENTS:
            self.assertTrue(same(event_text(event), text))
            self.assertEqual(event_text(event=event), text)

    def test_lists_and_tuples_are_the_same(self):
        for event, text in self.EVENTS:
            inner = [tuple(part) if isinstance(part, list) else part for part in event]
            for other in (list(event), inner, tuple(inner)):
                self.assertEqual(event_text(other), text)

    def test_of_events_that_were_told(self):
        codes = [33, 3, 1, 72, 41, 0, 2, 7, 8, 40, 3, 4, 0, 9, 65, 66, 64]
        self.assertEqual([event_text(event) for event in events_of(codes, masks=False)],
                         ["letter 3 words 72", "bell 0 7,8", "end 3 9 65,66", "fault 10 16"])


if __name__ == "__main__":
    unittest.main()

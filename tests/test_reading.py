"""Points [8] and [1]: Reader and events_of, by worked rows of bytes."""

import itertools
import unittest

from plain import as_utf8, rows
from slipwire.codes import MOST
from slipwire.errors import Fault
from slipwire.reading import Reader, events_of
from slipwire.slips import Slip
from things import same

MORE, WORDS, BYTES, END, BELL, ECHO = 0, 1, 2, 8, 9, 10
EURO = [226, 130, 172]


class Reading(unittest.TestCase):
    def assert_told(self, codes, events, masks=False, most=MOST):
        """At once, byte by byte, and in pieces of some sizes."""
        self.assertTrue(same(events_of(codes, masks=masks, most=most), events), (codes[:99], events))
        for size in (1, 2, 3, 7, 50):
            reader = Reader(masks, most=most)
            told = []
            for at in range(0, len(codes), size):
                told += reader.put(codes[at:at + size])
            self.assertTrue(same(told, events), (size, codes[:99], told))

    def assert_both(self, slips, events):
        for masks in (False, True):
            self.assert_told(rows(*slips, masks=masks), events, masks)

    def assert_fault(self, ahead, codes, code, at, masks=False, most=MOST):
        """The fault stands at that byte of codes, behind whole slips ahead that bring no event."""
        first = rows(*ahead, masks=masks)
        place = len(first) + at
        event = ("fault", code, place)
        for behind in ([], [0], [255] * 9, rows((BELL, 5), masks=masks)):
            self.assert_told(first + codes + behind, [event], masks, most)
        # Nothing is told ahead of that byte, so it is the first at which it can't go on.
        self.assert_told((first + codes)[:place], [], masks, most)
        reader = Reader(masks, most=most)
        self.assertEqual(reader.put(first + codes + [1, 2, 3]), [event])
        self.assertTrue(same(reader.fault(), (code, place)))
        self.assertTrue(same(reader.how_far(), place + 1))
        self.assertTrue(same(reader.put([41, 0, 0]), []))
        self.assertEqual((reader.fault(), reader.how_far()), ((code, place), place + 1))


class Letters(Reading):
    def test_in_one_slip(self):
        self.assert_both([(WORDS, 3, [72, 105])], [("letter", 3, "words", [72, 105])])
        self.assert_both([(BYTES, 31, [0, 255, 128])], [("letter", 31, "bytes", [0, 255, 128])])
        self.assert_both([(WORDS, 0)], [("letter", 0, "words", [])])
        self.assert_both([(BYTES, 0)], [("letter", 0, "bytes", [])])
        self.assert_both([(WORDS, 1, EURO + [65])], [("letter", 1, "words", [8364, 65])])

    def test_in_several(self):
        slips = [(WORDS, 3, [72], False), (MORE, 3, [105], False), (MORE, 3, [33])]
        self.assert_both(slips, [("letter", 3, "words", [72, 105, 33])])
        slips = [(BYTES, 3, [226], False), (MORE, 3, [255, 226])]
        self.assert_both(slips, [("letter", 3, "bytes", [226, 255, 226])])

    def test_empty_slips_go_anywhere(self):
        slips = [(WORDS, 3, [], False), (MORE, 3, [], False), (MORE, 3, [72], False), (MORE, 3, [], False), (MORE, 3)]
        self.assert_both(slips, [("letter", 3, "words", [72])])
        self.assert_both([(BYTES, 3, [], False), (MORE, 3)], [("letter", 3, "bytes", [])])

    def test_signs_may_be_cut_between_slips(self):
        for first, second in itertools.combinations_with_replacement(range(4), 2):
            slips = [(WORDS, 9, EURO[:first], False), (MORE, 9, EURO[first:second], False), (MORE, 9, EURO[second:])]
            self.assert_both(slips, [("letter", 9, "words", [8364])])

    def test_one_letter_behind_the_other(self):
        slips = [(WORDS, 3, [72]), (BYTES, 3, [1], False), (MORE, 3, [2]), (WORDS, 3, [73])]
        self.assert_both(slips, [("letter", 3, "words", [72]), ("letter", 3, "bytes", [1, 2]),
                                 ("letter", 3, "words", [73])])

    def test_several_talks_by_turns(self):
        slips = [(WORDS, 3, EURO[:1], False), (BYTES, 0, [7], False), (WORDS, 31, [65], False),
                 (MORE, 3, EURO[1:2], False), (MORE, 0, [8]), (MORE, 31, [66], False), (MORE, 3, EURO[2:]),
                 (BYTES, 0, [9]), (MORE, 31, [67])]
        self.assert_both(slips, [("letter", 0, "bytes", [7, 8]), ("letter", 3, "words", [8364]),
                                 ("letter", 0, "bytes", [9]), ("letter", 31, "words", [65, 66, 67])])

    def test_controls_between(self):
        slips = [(WORDS, 3, EURO[:2], False), (BELL, 3, [226]), (ECHO, 3), (END, 4, [0, 1]), (BELL, 5), (END, 6),
                 (ECHO, 31, [1, 2]), (MORE, 3, EURO[2:])]
        self.assert_both(slips, [("bell", 3, [226]), ("echo", 3, []), ("end", 4, 1, []), ("bell", 5, []),
                                 ("end", 6, 0, []), ("echo", 31, [1, 2]), ("letter", 3, "words", [8364])])

    def test_controls_of_120_bytes(self):
        data = list(range(120))
        words = [65] * 118
        self.assert_both([(BELL, 3, data), (ECHO, 3, data), (END, 3, [0, 7] + words)],
                         [("bell", 3, data), ("echo", 3, data), ("end", 3, 7, words)])

    def test_sizes_at_their_edges(self):
        for size in (249, 250, 255, 256, 3000, 4096):
            data = [place % 256 for place in range(size)]
            for masks in (False, True):
                codes = rows((BYTES, 3, data), (BELL, 3), masks=masks)
                self.assert_told(codes, [("letter", 3, "bytes", data), ("bell", 3, [])], masks)

    def test_great_letters(self):
        for size in (65_535, 65_536, 70_000):
            data = [place * 7 % 251 for place in range(size)]
            for masks in (False, True):
                codes = rows((BYTES, 3, data), masks=masks)
                told = events_of(codes, masks=masks, most=70_000)
                self.assertEqual(told, [("letter", 3, "bytes", data)])
        words = [8364] * 23_333
        told = events_of(rows((WORDS, 3, as_utf8(words))), masks=False, most=70_000)
        self.assertEqual(told, [("letter", 3, "words", words)])

    def test_nothing_of_no_bytes(self):
        self.assert_both([], [])
        reader = Reader(False)
        self.assertTrue(same(reader.put([]), []))
        self.assertTrue(same((reader.begun(), reader.ended(), reader.how_far(), reader.fault()), ([], [], 0, None)))

    def test_what_was_begun_is_never_told(self):
        for codes in (rows((WORDS, 3, [72], False)), rows((WORDS, 3, [72]))[:-1], rows((BELL, 3, [1, 2]))[:-1]):
            self.assert_told(codes, [])
        slips = [(WORDS, 3, [72], False), (BYTES, 4, [9], False), (BELL, 1, [5])]
        self.assert_told(rows(*slips) + [64], [("bell", 1, [5]), ("fault", 10, len(rows(*slips)))])


class Ends(Reading):
    def test_without_data(self):
        self.assert_both([(END, 3)], [("end", 3, 0, [])])

    def test_with_each_code(self):
        for code in range(256):
            for masks in (False, True):
                codes = rows((END, 3, [0, code]), (BELL, 4), masks=masks)
                if 1 <= code <= 199:
                    behind = [] if 10 <= code <= 16 else [("bell", 4, [])]
                    self.assert_told(codes, [("end", 3, code, [])] + behind, masks)
                else:
                    at = 8 if masks else 4
                    self.assert_fault([], codes[:at + 1], 16, at, masks)

    def test_with_words(self):
        for words in ([65], [8364], [0, 128, 65_535], [72, 105] * 30):
            self.assert_both([(END, 3, [0, 1] + as_utf8(words))], [("end", 3, 1, words)])

    def test_of_one_byte(self):
        self.assert_fault([], [40, 3, 1], 16, 2)
        self.assert_fault([], [56, 3, 1], 16, 2, True)

    def test_a_first_byte_that_is_not_0(self):
        for byte in (1, 10, 128, 255):
            self.assert_fault([], [40, 3, 2, byte, 1], 16, 3)
            self.assert_fault([], [40, 3, 5, byte, 0], 16, 3)
            self.assert_fault([], [56, 3, 2, 9, 8, 7, 6, 9 ^ byte, 1], 16, 7, True)

    def test_masked_first_bytes_are_looked_at_unmasked(self):
        self.assert_told([56, 3, 2, 9, 8, 7, 6, 9, 9], [("end", 3, 1, [])], True)
        self.assert_fault([], [56, 3, 2, 9, 8, 7, 6, 0], 16, 7, True)

    def test_words_at_fault(self):
        self.assert_fault([], [40, 3, 3, 0, 1, 255], 14, 5)
        self.assert_fault([], [40, 3, 5, 0, 1, 226, 65, 0], 14, 6)
        self.assert_fault([], [40, 3, 6, 0, 1, 65, 224, 159], 14, 7)
        # At the last byte of the slip, where they end within a sign.
        self.assert_fault([], [40, 3, 3, 0, 1, 226], 14, 5)
        self.assert_fault([], [40, 3, 4, 0, 1, 226, 130], 14, 6)
        self.assert_fault([], [40, 3, 4, 0, 1, 65, 194], 14, 6)
        self.assert_fault([], [56, 3, 3, 1, 1, 1, 1, 1, 0, 227], 14, 9, True)

    def test_words_do_not_begin_in_the_code(self):
        self.assert_told(rows((END, 3, [0, 194, 65])), [("end", 3, 194, [65])])
        self.assert_fault([], [40, 3, 3, 0, 194, 128], 14, 5)

    def test_nothing_is_read_behind_an_end_of_a_faults_code(self):
        for code in range(10, 17):
            for masks in (False, True):
                codes = rows((BELL, 1), (END, 3, [0, code, 65]), masks=masks)
                for behind in ([], [255], rows((BELL, 2), masks=masks), [1] * 50):
                    reader = Reader(masks)
                    told = reader.put(codes + behind)
                    self.assertTrue(same(told, [("bell", 1, []), ("end", 3, code, [65])]))
                    self.assertTrue(same(reader.put(rows((BELL, 2), masks=masks)), []))
                    self.assertTrue(same((reader.how_far(), reader.fault()), (len(codes), None)))
                    self.assertTrue(same((reader.begun(), reader.ended()), ([], [3])))
                    self.assert_told(codes + behind, told, masks)

    def test_all_is_read_behind_an_end_of_another_code(self):
        for code in (1, 9, 17, 199):
            self.assert_both([(END, 3, [0, code]), (BELL, 4)], [("end", 3, code, []), ("bell", 4, [])])
        self.assert_both([(END, 3), (BELL, 4)], [("end", 3, 0, []), ("bell", 4, [])])

    def test_a_letter_that_is_not_whole_is_never_told_behind_its_talks_end(self):
        slips = [(WORDS, 3, EURO[:1], False), (BYTES, 4, [1], False), (END, 3, [0, 1]), (MORE, 4, [2])]
        self.assert_both(slips, [("end", 3, 1, []), ("letter", 4, "bytes", [1, 2])])


class Faults(Reading):
    def test_10_heads(self):
        for head, masks in itertools.product(range(256), (False, True)):
            sort = head % 16
            goes = head <= 63 and sort in (0, 1, 2, 8, 9, 10) and (head & 16 > 0) == masks
            if goes and (sort < 8 or head & 32):
                self.assert_told([head], [], masks)
            else:
                self.assert_fault([], [head], 10, 0, masks)
                self.assert_fault([(WORDS, 3, [65], False)], [head], 10, 0, masks)

    def test_11_talks(self):
        for talk, kind in itertools.product((32, 33, 64, 128, 255), (MORE, WORDS, BYTES, END, BELL, ECHO)):
            self.assert_fault([], [32 + kind, talk], 11, 1)
            self.assert_fault([(BYTES, 0, [], False)], [48 + kind, talk], 11, 1, True)

    def test_12_sizes(self):
        for first in (252, 253, 254, 255):
            for kind in (WORDS, BYTES, END, BELL, ECHO):
                self.assert_fault([], [32 + kind, 3, first], 12, 2)
        self.assert_fault([], [34, 3, 250, 0, 249], 12, 4)
        self.assert_fault([], [34, 3, 250, 0, 0], 12, 4)
        self.assert_fault([], [34, 3, 251, 0], 12, 3)
        self.assert_fault([(WORDS, 3, [65], False)], [48, 3, 251, 0], 12, 3, True)

    def test_12_sizes_of_controls(self):
        for first, kind in itertools.product((121, 122, 249, 250, 251, 252, 255), (END, BELL, ECHO)):
            self.assert_fault([], [32 + kind, 3, first], 12, 2)
            self.assert_fault([], [48 + kind, 3, first], 12, 2, True)

    def test_13_more_where_no_letter_is_begun(self):
        for head in (0, 32):
            self.assert_fault([], [head, 3], 13, 1)
            self.assert_fault([(WORDS, 4, [65], False)], [head, 3], 13, 1)
            self.assert_fault([(WORDS, 4, [65], False)], [head + 16, 3], 13, 1, True)
            codes = rows((WORDS, 3, [65]), (BELL, 3))
            self.assert_told(codes + [head, 3], [("letter", 3, "words", [65]), ("bell", 3, []), ("fault", 13, 8)])

    def test_13_words_or_bytes_where_one_is_begun(self):
        for first, head in itertools.product((WORDS, BYTES), (1, 2, 33, 34)):
            self.assert_fault([(first, 3, [65], False)], [head, 3], 13, 1)
            self.assert_fault([(first, 3, [], False), (MORE, 3, [], False)], [head, 3], 13, 1)
            self.assert_told(rows((first, 3, [65], False)) + [head, 4], [])

    def test_13_any_slip_behind_the_end(self):
        for kind, data in itertools.product((MORE, WORDS, BYTES, END, BELL, ECHO), ([], [0, 1])):
            for masks in (False, True):
                codes = rows((WORDS, 3, [65], False), (END, 3, data), masks=masks)
                event = ("end", 3, 1 if data else 0, [])
                head = kind + 32 + 16 * masks
                self.assert_told(codes + [head, 3, 0], [event, ("fault", 13, len(codes) + 1)], masks)
                if kind != MORE:
                    self.assert_told(codes + [head, 4], [event], masks)

    def test_13_only_behind_whole_slips(self):
        # The first slip of the letter is still coming: it is no slip of another one that would be at fault.
        self.assert_told(rows((WORDS, 3, [1, 3, 0], False))[:-1], [])

    def test_14_at_a_byte_of_words(self):
        for byte in [*range(128, 194), *range(240, 256)]:
            self.assert_fault([], [33, 3, 9, 65, byte], 14, 4)
            self.assert_fault([(WORDS, 3, [65], False)], [0, 3, 9, byte], 14, 3)
        self.assert_fault([], [33, 3, 9, 226, 65], 14, 4)
        self.assert_fault([], [33, 3, 9, 226, 130, 192], 14, 5)
        self.assert_fault([], [33, 3, 9, 224, 159], 14, 4)
        self.assert_fault([], [33, 3, 9, 237, 160], 14, 4)
        self.assert_fault([], [49, 3, 9, 1, 2, 3, 4, 225 ^ 1, 65 ^ 2], 14, 8, True)

    def test_14_over_slips(self):
        self.assert_fault([(WORDS, 3, [65, 226], False)], [0, 3, 2, 65], 14, 3)
        self.assert_fault([(WORDS, 3, [237], False), (MORE, 3, [], False)], [0, 3, 2, 160], 14, 3)
        self.assert_fault([(WORDS, 3, [226, 130], False), (BYTES, 4, [65], False)], [32, 3, 1, 65], 14, 3)
        self.assert_fault([(WORDS, 3, [226], False), (MORE, 3, [130], False)], [32, 3, 1, 65], 14, 3)

    def test_14_at_the_last_byte_of_a_last_slip(self):
        self.assert_fault([], [33, 3, 1, 226], 14, 3)
        self.assert_fault([], [33, 3, 3, 65, 226, 130], 14, 5)
        self.assert_fault([(WORDS, 3, [226], False)], [32, 3, 1, 130], 14, 3)
        # Where no data is behind, at the size's or the mask's last byte.
        self.assert_fault([(WORDS, 3, [226], False)], [32, 3, 0], 14, 2)
        self.assert_fault([(WORDS, 3, [226], False)], [48, 3, 0, 1, 2, 3, 4], 14, 6, True)
        self.assert_fault([(WORDS, 3, [65, 194], False), (MORE, 3, [], False)], [48, 3, 0, 0, 0, 0, 0], 14, 6, True)

    def test_14_not_at_slips_that_are_not_last(self):
        self.assert_told(rows((WORDS, 3, [226], False), (MORE, 3, [], False), (MORE, 3, [130], False)), [])

    def test_14_not_in_bytes_nor_in_bells_and_echoes(self):
        data = [255, 128, 226]
        self.assert_both([(BYTES, 3, data, False), (BELL, 3, data), (ECHO, 3, data), (MORE, 3, data)],
                         [("bell", 3, data), ("echo", 3, data), ("letter", 3, "bytes", data * 2)])

    def test_15_just_most_and_one_more(self):
        for most in (1, 2, 249, 250, 300, 4096):
            data = [65] * most
            for kind, word in ((WORDS, "words"), (BYTES, "bytes")):
                self.assert_told(rows((kind, 3, data)), [("letter", 3, word, data)], most=most)
                front = rows((kind, 3, data + [65]))[:-most - 1]
                self.assert_fault([], front, 15, len(front) - 1, most=most)

    def test_15_over_slips(self):
        for kind in (WORDS, BYTES):
            self.assert_fault([(kind, 3, [65] * 6, False), (MORE, 3, [65] * 4, False)], [32, 3, 1], 15, 2, most=10)
            self.assert_fault([(kind, 3, [65] * 6, False)], [0, 3, 5], 15, 2, most=10)
            self.assert_fault([(kind, 3, [65] * 6, False)], [16, 3, 5], 15, 2, True, most=10)
            codes = rows((kind, 3, [65] * 6, False), (MORE, 3, [65] * 4, False), (MORE, 3))
            word = "words" if kind == WORDS else "bytes"
            self.assert_told(codes, [("letter", 3, word, [65] * 10)], most=10)

    def test_15_counts_bytes_not_signs(self):
        self.assert_told(rows((WORDS, 3, EURO)), [("letter", 3, "words", [8364])], most=3)
        self.assert_fault([], [33, 3, 3], 15, 2, most=2)
        self.assert_fault([(WORDS, 3, EURO[:2], False)], [32, 3, 1], 15, 2, most=2)

    def test_15_counts_each_letter_by_itself(self):
        slips = [(BYTES, 3, [1, 2], False), (BYTES, 4, [3, 4]), (MORE, 3, [5]), (BYTES, 3, [6, 7, 8])]
        self.assert_told(rows(*slips), [("letter", 4, "bytes", [3, 4]), ("letter", 3, "bytes", [1, 2, 5]),
                                        ("letter", 3, "bytes", [6, 7, 8])], most=3)

    def test_15_at_the_last_byte_of_a_size_of_several(self):
        self.assert_fault([], [34, 3, 250, 255, 255], 15, 4)
        self.assert_fault([], [34, 3, 250, 16, 1], 15, 4)
        self.assert_fault([], [34, 3, 251, 1, 0, 0], 15, 5)
        self.assert_fault([], [50, 3, 251, 255, 255, 255], 15, 5, True)
        self.assert_told([34, 3, 250, 16, 0], [])
        self.assert_fault([], [34, 3, 251, 1, 17, 113], 15, 5, most=70_000)
        self.assert_told([34, 3, 251, 1, 17, 112], [], most=70_000)

    def test_15_not_of_controls(self):
        data = [65] * 120
        self.assert_told(rows((BELL, 3, data), (ECHO, 3, data), (END, 3, [0, 1] + data[2:])),
                         [("bell", 3, data), ("echo", 3, data), ("end", 3, 1, data[2:])], most=1)

    def test_most_left_out_is_4096(self):
        for data, events in (([1] * 4096, [("letter", 3, "bytes", [1] * 4096)]), ([1] * 4097, [("fault", 15, 4)])):
            codes = rows((BYTES, 3, data))
            self.assertEqual(events_of(codes, masks=False), events)
            self.assertEqual(Reader(False).put(codes), events)

    def test_at_one_byte_the_first_goes(self):
        # 11 ahead of 13: no letter is begun in a talk that there isn't.
        self.assert_fault([], [32, 40], 11, 1)
        # 12 ahead of 15 and 16, at one byte of the size.
        self.assert_fault([], [34, 3, 252], 12, 2, most=1)
        self.assert_fault([], [40, 3, 121], 12, 2, most=1)
        self.assert_fault([], [34, 3, 250, 0, 200], 12, 4, most=1)
        # 16 ahead of 14: an end of one byte, masked or not.
        self.assert_fault([], [40, 3, 1, 255], 16, 2)

    def test_of_several_the_first_byte_goes(self):
        self.assert_fault([], [64, 255, 255], 10, 0)
        self.assert_fault([], [33, 32, 255], 11, 1)
        self.assert_fault([], [32, 3, 255], 13, 1)
        self.assert_fault([], [33, 3, 9, 255], 15, 2, most=8)
        self.assert_fault([], [40, 3, 3, 1, 0, 255], 16, 3)
        self.assert_fault([], [40, 3, 3, 0, 0, 255], 16, 4)
        self.assert_fault([(WORDS, 3, EURO[:1], False)], [32, 3, 1, 65], 14, 3)


class States(Reading):
    def test_begun_ended_and_how_far_behind_each_slip(self):
        steps = [((WORDS, 9, [72], False), [9], []), ((BYTES, 3, [1], False), [3, 9], []),
                 ((BELL, 5), [3, 9], []), ((WORDS, 31, [], False), [3, 9, 31], []),
                 ((MORE, 3, [1], False), [3, 9, 31], []),
                 ((MORE, 9, [105]), [3, 31], []), ((END, 31, [0, 2]), [3], [31]), ((END, 0), [3], [0, 31]),
                 ((MORE, 3), [], [0, 31]), ((WORDS, 3, [65]), [], [0, 31]), ((BYTES, 3, [65], False), [3], [0, 31]),
                 ((END, 3, [0, 199]), [], [0, 3, 31])]
        for masks, piece in itertools.product((False, True), (1, 2, 1000)):
            reader, far, begun, ended = Reader(masks), 0, [], []
            for slip, begun_now, ended_now in steps:
                codes = rows(slip, masks=masks)
                for at in range(0, len(codes), piece):
                    self.assertTrue(same((reader.begun(), reader.ended()), (begun, ended)))
                    reader.put(codes[at:at + piece])
                    far += len(codes[at:at + piece])
                    self.assertTrue(same((reader.how_far(), reader.fault()), (far, None)))
                begun, ended = begun_now, ended_now
                self.assertTrue(same((reader.begun(), reader.ended()), (begun, ended)))

    def test_behind_a_fault_as_they_stood_ahead_of_it(self):
        first = rows((WORDS, 9, [226], False), (BYTES, 3, [1], False), (END, 4), (END, 1, [0, 3]))
        for wrong in ([64], [1, 255], [0, 5], [0, 9, 252], [0, 9, 2, 65], [32, 9, 1, 130], [1, 6, 1, 255], [40, 3, 1],
                      [40, 3, 3, 0, 7, 255], [40, 9, 2, 0, 0], [41, 4], [32, 3, 250, 255, 255], [33, 9]):
            reader = Reader(False)
            reader.put(first)
            told = reader.put(wrong + [0, 0, 0])
            self.assertEqual([event[0] for event in told], ["fault"], wrong)
            self.assertTrue(same((reader.begun(), reader.ended()), ([3, 9], [1, 4])))
            self.assertEqual(reader.how_far(), len(first) + len(wrong))

    def test_an_end_of_a_faults_code_is_an_end(self):
        reader = Reader(False)
        reader.put(rows((WORDS, 9, [72], False), (BYTES, 3, [1], False), (END, 9, [0, 12])))
        self.assertTrue(same((reader.begun(), reader.ended(), reader.fault()), ([3], [9], None)))

    def test_a_letter_is_begun_behind_its_first_whole_slip(self):
        reader = Reader(False)
        for byte in rows((WORDS, 3, [72, 105], False)):
            self.assertEqual(reader.begun(), [])
            reader.put([byte])
        self.assertEqual(reader.begun(), [3])
        for byte in rows((MORE, 3, [72, 105])):
            self.assertEqual(reader.begun(), [3])
            reader.put([byte])
        self.assertEqual(reader.begun(), [])

    def test_a_talk_is_ended_behind_its_whole_end(self):
        reader = Reader(False)
        reader.put(rows((WORDS, 3, [72], False)))
        for byte in rows((END, 3, [0, 1, 65])):
            self.assertEqual((reader.begun(), reader.ended()), ([3], []))
            reader.put([byte])
        self.assertEqual((reader.begun(), reader.ended()), ([], [3]))

    def test_asking_changes_nothing(self):
        codes = rows((WORDS, 3, EURO[:2], False), (BELL, 3), (MORE, 3, EURO[2:]), (END, 3), masks=True)
        reader, told = Reader(True), []
        for byte in codes:
            told += reader.put([byte])
            for _ in range(2):
                reader.begun(), reader.ended(), reader.how_far(), reader.fault(), reader.twin()
                self.assertTrue(same(reader.put([]), []))
        self.assertEqual(told, events_of(codes, masks=True))

    def test_a_reader_is_true(self):
        self.assertIs(bool(Reader(False)), True)
        self.assertIs(bool(Reader(True, most=1)), True)


class Twins(Reading):
    CODES = rows((WORDS, 3, EURO[:2], False), (BYTES, 4, [9, 9], False), (BELL, 3, [7, 8]), (MORE, 3, EURO[2:], False),
                 (MORE, 4, [1, 2]), (END, 5, [0, 7, 65]), (MORE, 3, [66]), masks=True)

    def states(self, reader):
        return reader.begun(), reader.ended(), reader.how_far(), reader.fault()

    def test_a_twin_goes_on_by_itself(self):
        for cut in range(len(self.CODES) + 1):
            reader = Reader(True)
            first = reader.put(self.CODES[:cut])
            twin, held = reader.twin(), self.states(reader)
            self.assertIs(type(twin), Reader)
            self.assertIsNot(twin, reader)
            self.assertTrue(same(self.states(twin), held))
            rest = twin.put(self.CODES[cut:])
            self.assertTrue(same(self.states(reader), held))
            self.assertTrue(same(first + rest, events_of(self.CODES, masks=True)))
            # The first one goes another way, byte by byte, beside its twin's own.
            other = reader.twin()
            wrong = []
            for byte in [64] * 9:
                wrong += reader.put([byte])
            self.assertTrue(same(self.states(other), held))
            self.assertTrue(same(other.put(self.CODES[cut:]), rest))
            self.assertEqual(first + wrong, events_of(self.CODES[:cut] + [64] * 9, masks=True))

    def test_a_twin_of_one_at_fault_reads_no_more(self):
        reader = Reader(False)
        reader.put(rows((BYTES, 3, [1], False)) + [64])
        twin = reader.twin()
        self.assertTrue(same(self.states(twin), ([3], [], 5, (10, 4))))
        self.assertTrue(same(twin.put([41, 0, 0]), []))
        reader = Reader(False)
        reader.put(rows((END, 3, [0, 16])))
        self.assertTrue(same(reader.twin().put([41, 0, 0]), []))
        self.assertEqual(reader.twin().ended(), [3])

    def test_a_twin_has_the_same_masks_and_most(self):
        twin = Reader(True, most=2).twin()
        self.assertEqual(twin.put([50, 3, 3]), [("fault", 15, 2)])
        self.assertEqual(Reader(True, most=5).twin().put([34]), [("fault", 10, 0)])

    def test_a_twin_of_a_twin(self):
        reader = Reader(True)
        told = []
        for byte in self.CODES:
            reader = reader.twin()
            told += reader.put([byte])
        self.assertEqual(told, events_of(self.CODES, masks=True))


class Handed(Reading):
    CODES = rows((WORDS, 3, [72], False), (BELL, 3, [7]), (MORE, 3, [73], False), (BYTES, 4, [1, 2]), (ECHO, 3, [8]),
                 (END, 5, [0, 1, 65]), (MORE, 3, [74]), (END, 3), (END, 6))

    def test_a_tuple_is_the_same(self):
        wanted = events_of(self.CODES, masks=False)
        self.assertTrue(same(events_of(tuple(self.CODES), masks=False), wanted))
        reader = Reader(False)
        self.assertTrue(same(reader.put(tuple(self.CODES[:9])) + reader.put(tuple(self.CODES[9:])), wanted))

    def test_by_names(self):
        codes = rows((BYTES, 3, [1, 2]), masks=True)
        self.assertEqual(events_of(codes=codes, masks=True, most=1), [("fault", 15, 2)])
        self.assertEqual(Reader(masks=True, most=1).put(codes=codes), [("fault", 15, 2)])
        self.assertEqual(Reader(most=2, masks=True).put(codes), [("letter", 3, "bytes", [1, 2])])
        for wrong in (lambda: Reader(True, 5), lambda: Reader(), lambda: events_of([], True), lambda: events_of([])):
            self.assertRaises(TypeError, wrong)

    def test_what_is_handed_in_is_neither_changed_nor_kept(self):
        reader, codes = Reader(False), list(self.CODES)
        told = []
        for at in range(0, len(codes), 5):
            piece = codes[at:at + 5]
            held = list(piece)
            told += reader.put(piece)
            self.assertTrue(same(piece, held))
            piece[:] = [255] * 3
        self.assertEqual(told, events_of(self.CODES, masks=False))
        self.assertEqual(codes, self.CODES)

    def test_told_lists_that_are_changed_change_nothing(self):
        for piece in (1, 4, 1000):
            reader, told = Reader(False), []
            for at in range(0, len(self.CODES), piece):
                events = reader.put(self.CODES[at:at + piece])
                told += [(*event[:-1], list(event[-1])) for event in events]
                for event in events:
                    event[-1].append(300)
                events.append(("bell", 1, []))
                for row in (reader.begun(), reader.ended()):
                    row.append(17)
            self.assertEqual(told, events_of(self.CODES, masks=False))
            self.assertEqual((reader.begun(), reader.ended()), ([], [3, 5, 6]))

    def test_no_two_told_lists_are_one_and_the_same(self):
        reader = Reader(False)
        events = reader.put(rows((WORDS, 3), (BYTES, 3), (BELL, 3), (ECHO, 3), (END, 3), (END, 4), (END, 5, [0, 1])))
        lists = [event[-1] for event in events] + [reader.put([]), reader.put([]), reader.begun(), reader.begun(),
                                                   reader.ended(), reader.ended(), reader.twin().ended()]
        self.assertEqual(len({id(row) for row in lists}), len(lists))
        self.assertEqual([type(row) for row in lists], [list] * len(lists))

    def test_kinds_of_events(self):
        for event in events_of(self.CODES + [64], masks=False):
            self.assertIs(type(event), tuple)

    def test_two_readers_beside_one_another(self):
        one, other = Reader(False), Reader(False)
        told = ([], [])
        for byte in self.CODES:
            told[0].extend(one.put([byte]))
            if one.how_far() % 2:
                told[1].extend(other.put([byte]))
        self.assertEqual(told[0], events_of(self.CODES, masks=False))
        self.assertEqual(told[1], events_of(self.CODES[::2], masks=False))

    def test_slips_that_were_told_may_be_handed_in_again(self):
        codes = Slip(2, 3, [5] * 70_000).codes()
        self.assertEqual(events_of(codes, masks=False, most=70_000), [("letter", 3, "bytes", [5] * 70_000)])
        self.assertEqual(events_of(codes, masks=False, most=69_999), [("fault", 15, 5)])

    def test_a_reader_refuses_nothing(self):
        for byte in range(256):
            try:
                Reader(False).put([byte] * 5)
            except Fault:
                self.fail(byte)


if __name__ == "__main__":
    unittest.main()

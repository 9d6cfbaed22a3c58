"""Point [9]: letters cut in slips, and slips joined to letters."""

import copy
import itertools
import random
import unittest

from draws import any_slips
from plain import Plain, as_utf8, slip_row
from plain_post import fits, slips_of
from slipwire.cutting import joined_in, slips_for
from slipwire.errors import BadLetter, NoSlip
from slipwire.reading import events_of
from slipwire.slips import Slip
from things import same, things

MORE, WORDS, BYTES, END, BELL, ECHO = 0, 1, 2, 8, 9, 10
EURO = [226, 130, 172]


def fields(slips):
    return [(slip.kind, slip.talk, list(slip.data), slip.last) for slip in slips]


def wrong_part(*told, **more):
    try:
        slips_for(*told, **more)
    except BadLetter as refusal:
        return refusal.part
    return None


def wrong_number(slips):
    try:
        joined_in(slips)
    except NoSlip as refusal:
        return refusal.number
    return None


def made(*slips, mask=None):
    """Slips, each told as (kind, talk, data, last), the last ones of these left out or not."""
    return [Slip(kind, talk, *rest[:1], last=(rest + [(), True][len(rest):])[1], mask=mask)
            for kind, talk, *rest in slips]


class Cut(unittest.TestCase):
    def assert_cut(self, pieces, data, **more):
        """As a letter of bytes, and, where it may be, as one of words."""
        for word, first in (("bytes", BYTES), ("words", WORDS)):
            slips = slips_for(7, word, data, **more)
            self.assertIs(type(slips), list)
            self.assertEqual({type(slip) for slip in slips}, {Slip})
            self.assertEqual([list(slip.data) for slip in slips], pieces, more)
            self.assertEqual([slip.kind for slip in slips], [first] + [MORE] * (len(pieces) - 1))
            self.assertTrue(same([slip.last for slip in slips], [False] * (len(pieces) - 1) + [True]))
            self.assertEqual({(slip.talk, slip.mask) for slip in slips}, {(7, None)})

    def test_worked_letters(self):
        self.assertEqual(fields(slips_for(3, "words", [72, 105])), [(WORDS, 3, [72, 105], True)])
        self.assertEqual(fields(slips_for(0, "bytes", [9, 8, 7], sizes=[1], every=1)),
                         [(BYTES, 0, [9], False), (MORE, 0, [8], False), (MORE, 0, [7], True)])
        self.assertEqual(fields(slips_for(31, "words", [8364], every=1)),
                         [(WORDS, 31, [226], False), (MORE, 31, [130], False), (MORE, 31, [172], True)])

    def test_no_bytes(self):
        for sizes, every in itertools.product(((), [0], [0, 0], [5], [0, 5, 0], [70_000]), (1, 100, 70_000)):
            self.assert_cut([[]], [], sizes=sizes, every=every)
        self.assert_cut([[]], [])
        self.assert_cut([[]], ())

    def test_every(self):
        data = [1, 2, 3, 4, 5]
        self.assert_cut([[1], [2], [3], [4], [5]], data, every=1)
        self.assert_cut([[1, 2], [3, 4], [5]], data, every=2)
        self.assert_cut([[1, 2, 3, 4], [5]], data, every=4)
        for every in (5, 6, 100, 70_000):
            self.assert_cut([data], data, every=every)

    def test_every_left_out_is_100(self):
        data = [place % 128 for place in range(250)]
        self.assert_cut([data[:100], data[100:200], data[200:]], data)
        self.assert_cut([data[:100], data[100:200]], data[:200])
        self.assert_cut([data[:100]], data[:100])
        self.assert_cut([data[:100], data[100:101]], data[:101])
        self.assert_cut([data[:7], data[7:107], data[107:200]], data[:200], sizes=(7,))

    def test_sizes(self):
        data = [1, 2, 3, 4, 5]
        self.assert_cut([[1], [2, 3], [4, 5]], data, sizes=[1, 2])
        self.assert_cut([[1], [2, 3], [4], [5]], data, sizes=(1, 2), every=1)
        self.assert_cut([[1, 2], [3, 4, 5]], data, sizes=[2, 3])
        self.assert_cut([[1, 2], [3, 4, 5]], data, sizes=[2, 9])
        self.assert_cut([data], data, sizes=[5])
        self.assert_cut([data], data, sizes=[6, 1, 1])
        self.assert_cut([data], data, sizes=[2 ** 24 - 1])

    def test_noughts(self):
        data = [1, 2, 3]
        self.assert_cut([[], [1, 2, 3]], data, sizes=[0])
        self.assert_cut([[], [], [1], [2], [3]], data, sizes=[0, 0], every=1)
        self.assert_cut([[1], [], [], [2], [3]], data, sizes=[1, 0, 0, 1])
        # Behind some bytes, while others are left: an empty piece. Where none is left: nothing.
        self.assert_cut([[1, 2], [], [3]], data, sizes=[2, 0])
        self.assert_cut([[1, 2, 3]], data, sizes=[3, 0])
        self.assert_cut([[1, 2, 3]], data, sizes=[4, 0, 0])
        self.assert_cut([[]] * 60 + [data], data, sizes=[0] * 60)

    def test_signs_are_cut_anywhere(self):
        words = [65, 8364, 2047, 65_535]
        data = as_utf8(words)
        for every in range(1, len(data) + 2):
            slips = slips_for(2, "words", words, every=every)
            self.assertEqual([list(slip.data) for slip in slips],
                             [data[at:at + every] for at in range(0, len(data), every)])
        for first, second in itertools.combinations_with_replacement(range(4), 2):
            slips = slips_for(2, "words", [8364], sizes=[first, second - first])
            self.assertEqual(sum([list(slip.data) for slip in slips], []), EURO)
            self.assertEqual(joined_in(slips), [(2, "words", [8364])])

    def test_great_letters(self):
        data = [place * 7 % 251 for place in range(70_200)]
        for every, many in ((1, 70_200), (70_000, 2), (100, 702)):
            slips = slips_for(1, "bytes", data, every=every)
            self.assertEqual(len(slips), many)
            self.assertEqual([byte for slip in slips for byte in slip.data], data)
        self.assertEqual(joined_in(slips_for(1, "bytes", data)), [(1, "bytes", data)])
        self.assertEqual(joined_in(slips_for(1, "bytes", data, every=70_000)), [(1, "bytes", data)])
        words = [65, 8364] * 500
        self.assertEqual(joined_in(slips_for(1, "words", words, every=1)), [(1, "words", words)])

    def test_as_the_plain_cutting(self):
        draw = random.Random(30)
        for number in range(3000):
            word = draw.choice(["words", "bytes"])
            data = [draw.choice([0, 65, 200, 255]) for _ in range(draw.randrange(12))]
            sizes = [draw.choice([0, 0, 1, 2, 3, 50]) for _ in range(draw.randrange(6))]
            every, talk = draw.choice([1, 2, 3, 100]), draw.randrange(32)
            slips = slips_for(talk, word, data, sizes=sizes, every=every)
            self.assertTrue(same(fields(slips), slips_of(talk, word, data, sizes, every)))
            self.assertTrue(same(joined_in(slips), [(talk, word, data)]))

    def test_lists_and_tuples_are_the_same(self):
        for word, data, sizes in itertools.product(("words", "bytes"), ([], [65], [65, 66, 67]), ([], [1], [0, 2])):
            one = slips_for(5, word, data, sizes=sizes)
            for data_now, sizes_now in itertools.product((data, tuple(data)), (sizes, tuple(sizes))):
                self.assertEqual(slips_for(5, word, data_now, sizes=sizes_now), one)

    def test_by_names(self):
        wanted = slips_for(5, "bytes", [1, 2, 3], sizes=[1], every=1)
        self.assertEqual(slips_for(every=1, sizes=(1,), data=(1, 2, 3), word="bytes", talk=5), wanted)
        for wrong in (lambda: slips_for(5, "bytes", [1], [1]), lambda: slips_for(5, "bytes")):
            self.assertRaises(TypeError, wrong)

    def test_what_is_handed_in_is_neither_changed_nor_kept(self):
        data, sizes = [1, 2, 3], [1, 0]
        slips = slips_for(5, "bytes", data, sizes=sizes)
        self.assertTrue(same((data, sizes), ([1, 2, 3], [1, 0])))
        data[0], sizes[0] = 9, 3
        self.assertEqual([list(slip.data) for slip in slips], [[1], [], [2, 3]])
        self.assertIsNot(slips_for(5, "bytes", []), slips_for(5, "bytes", []))


class Refused(unittest.TestCase):
    def test_word(self):
        for word in ("", "word", "Words", "words ", "byte", "more", "bell", None, True, False, 0, 1, 2, [], (),
                     ["words"], ("bytes",), [["words"]]):
            for data in ([], [65], None, "x"):
                self.assertEqual(wrong_part(3, word, data), "word", word)

    def test_data_of_words(self):
        for data in ([0], [55_295], [57_344], [65_535], (65, 8364), [], ()):
            self.assertIsNone(wrong_part(3, "words", data), data)
        for sign in (-1, 55_296, 57_343, 65_536, 2 ** 70, True, False, None, "A", "", [], [65], (65,)):
            for data in ([sign], (sign,), [65, sign], [sign, 65]):
                self.assertEqual(wrong_part(3, "words", data), "data", data)

    def test_data_of_bytes(self):
        for data in ([0], [255], (0, 128, 255), [], ()):
            self.assertIsNone(wrong_part(3, "bytes", data), data)
        for byte in (-1, 256, 8364, 2 ** 70, True, False, None, "A", "", [], [65], (65,)):
            for data in ([byte], (byte,), [65, byte], [byte, 65]):
                self.assertEqual(wrong_part(3, "bytes", data), "data", data)

    def test_data_that_is_no_list(self):
        for word, data in itertools.product(("words", "bytes"), (None, True, False, 0, 65, "", "A", "words")):
            self.assertEqual(wrong_part(3, word, data), "data", data)

    def test_anything_six_deep(self):
        for thing in things():
            held = copy.deepcopy(thing)
            self.assertEqual(wrong_part(3, thing, [65]), "word")
            self.assertEqual(wrong_part(3, thing, thing), "word")
            for word in ("words", "bytes"):
                self.assertEqual(wrong_part(3, word, thing), None if fits(thing, word) else "data", thing)
            self.assertTrue(same(thing, held))

    def test_the_refusal_is_a_bad_letter(self):
        with self.assertRaises(BadLetter) as held:
            slips_for(0, "bytes", None)
        self.assertIs(type(held.exception), BadLetter)
        self.assertTrue(same(held.exception.part, "data"))


class Joined(unittest.TestCase):
    def assert_joined(self, slips, letters):
        """Masked, not masked, or both by turns; as a list and as a tuple."""
        for masks in ([None], [(1, 2, 3, 4)], [None, (200, 100, 0, 255), (0, 0, 0, 0)]):
            row = [made(slip, mask=mask)[0] for slip, mask in zip(slips, itertools.cycle(masks))]
            held = [copy.deepcopy(slip) for slip in row]
            self.assertTrue(same(joined_in(row), letters), (slips, joined_in(row)))
            self.assertTrue(same(joined_in(tuple(row)), letters))
            self.assertEqual(row, held)

    def assert_refused(self, slips, number):
        for mask in (None, (5, 6, 7, 8)):
            row = made(*slips, mask=mask)
            self.assertTrue(same(wrong_number(row), number), slips)
            # It is the first one: those ahead of it are joined, and those behind it aren't looked at.
            self.assertIsNone(wrong_number(row[:number]))
            self.assertEqual(wrong_number(row[:number + 1]), number)
            self.assertEqual(wrong_number(row + made((END, 0, [0]))), number)

    def test_none(self):
        self.assert_joined([], [])

    def test_letters_between_one_another(self):
        self.assert_joined([(WORDS, 3, EURO[:1], False), (BYTES, 0, [7], False), (MORE, 3, EURO[1:], False),
                            (WORDS, 31, []), (MORE, 0, [8]), (BYTES, 0, []), (MORE, 3, [65])],
                           [(31, "words", []), (0, "bytes", [7, 8]), (0, "bytes", []), (3, "words", [8364, 65])])

    def test_controls_between(self):
        self.assert_joined([(BELL, 3, [1]), (WORDS, 3, [65], False), (ECHO, 3), (BELL, 4), (END, 5, [0, 1, 66]),
                            (MORE, 3, []), (END, 3)], [(3, "words", [65])])
        self.assert_joined([(BELL, 3), (ECHO, 3, [255]), (END, 3)], [])

    def test_letters_that_are_not_whole(self):
        self.assert_joined([(WORDS, 3, [65], False), (BYTES, 4, [1])], [(4, "bytes", [1])])
        self.assert_joined([(WORDS, 3, [226], False), (MORE, 3, [130], False)], [])

    def test_an_end_where_a_letter_is_begun(self):
        self.assert_joined([(WORDS, 3, [226], False), (BYTES, 4, [1], False), (END, 3, [0, 9]), (MORE, 4)],
                           [(4, "bytes", [1])])

    def test_behind_an_end_of_a_faults_code_nothing_is_looked_at(self):
        for code in range(10, 17):
            self.assert_joined([(WORDS, 3, [65]), (BYTES, 4, [1], False), (END, 5, [0, code, 65]), (MORE, 4),
                                (MORE, 9), (END, 5, [7]), (WORDS, 6, [255]), (BYTES, 6)], [(3, "words", [65])])
        for code in (9, 17):
            self.assert_refused([(END, 5, [0, code]), (MORE, 9)], 1)

    def test_13(self):
        self.assert_refused([(MORE, 3)], 0)
        self.assert_refused([(WORDS, 3, [65]), (MORE, 3)], 1)
        self.assert_refused([(WORDS, 3, [65], False), (WORDS, 3)], 1)
        self.assert_refused([(WORDS, 3, [65], False), (BELL, 3), (BYTES, 3, [], False)], 2)
        self.assert_refused([(WORDS, 3, [65], False), (MORE, 4)], 1)
        for kind in (MORE, WORDS, BYTES, END, BELL, ECHO):
            self.assert_refused([(BYTES, 3, [], False), (END, 3), (BELL, 4), (kind, 3)], 3)

    def test_14(self):
        self.assert_refused([(WORDS, 3, [128])], 0)
        self.assert_refused([(WORDS, 3, [65, 237, 160, 128])], 0)
        self.assert_refused([(WORDS, 3, [226])], 0)
        self.assert_refused([(WORDS, 3, [226], False), (MORE, 3, [130])], 1)
        self.assert_refused([(WORDS, 3, [226], False), (MORE, 3, [], False), (MORE, 3)], 2)
        self.assert_refused([(WORDS, 3, [226], False), (MORE, 3, [65], False)], 1)
        self.assert_refused([(END, 3, [0, 1, 226])], 0)
        self.assert_refused([(END, 3, [0, 1, 255, 65])], 0)

    def test_16(self):
        for data in ([0], [1], [1, 1], [0, 0], [0, 200], [0, 255], [255, 1, 65]):
            self.assert_refused([(END, 3, data)], 0)
            self.assert_refused([(BYTES, 3, [9], False), (END, 4, [0, 199]), (END, 3, data)], 2)

    def test_most_is_no_matter(self):
        data = [9] * 5000
        self.assert_joined([(BYTES, 3, data, False), (MORE, 3, data)], [(3, "bytes", data * 2)])

    def test_2000_slips(self):
        slips = [(BYTES, 0, [1], False)] + [(MORE, 0, [2], False), (BELL, 1)] * 999 + [(MORE, 0, [3])]
        self.assertEqual(len(slips), 2000)
        self.assert_joined(slips, [(0, "bytes", [1] + [2] * 999 + [3])])

    def test_as_the_plain_reading(self):
        draw = random.Random(31)
        found = set()
        for _ in range(4000):
            slips = any_slips(draw, draw.sample(range(32), draw.randrange(1, 4)))
            if draw.random() < 0.5:
                slips[draw.randrange(len(slips))] = draw.choice(
                    [(MORE, 3, [65], True), (WORDS, 3, [255], False), (END, 4, [0, 0], True), (BYTES, 3, [], True)])
            codes, ends = [], []
            for kind, talk, data, last in slips:
                codes += slip_row(kind, talk, data, last=last)
                ends.append(len(codes))
            plain = Plain(codes, False, 10 ** 9)
            row = [Slip(kind, talk, data, last=last, mask=draw.choice([None, [9, 8, 7, 6]]))
                   for kind, talk, data, last in slips]
            if plain.fault is None:
                letters = [event[1:] for event in plain.events if event[0] == "letter"]
                self.assertTrue(same(joined_in(row), letters))
            else:
                found.add(plain.fault[0])
                number = next(place for place, end in enumerate(ends) if plain.fault[1] < end)
                self.assertEqual(wrong_number(row), number)
        self.assertEqual(found, {13, 14, 16})

    def test_slips_that_were_read_join_to_the_letters_that_were_told(self):
        slips = slips_for(3, "words", [8364] * 40, every=7)
        codes = [byte for slip in slips for byte in slip.codes()]
        self.assertEqual([("letter", *letter) for letter in joined_in(slips)], events_of(codes, masks=False))

    def test_told_lists_are_the_askers_own(self):
        slips = slips_for(3, "bytes", [1, 2]) + slips_for(3, "bytes", []) + slips_for(3, "words", [])
        told = joined_in(slips)
        self.assertEqual(len({id(letter[2]) for letter in told}), 3)
        for letter in told:
            letter[2].append(300)
        told.clear()
        self.assertEqual(joined_in(slips), [(3, "bytes", [1, 2]), (3, "bytes", []), (3, "words", [])])

    def test_by_name_and_the_refusal_is_a_no_slip(self):
        self.assertEqual(joined_in(slips=[Slip(2, 0, [5])]), [(0, "bytes", [5])])
        with self.assertRaises(NoSlip) as held:
            joined_in([Slip(9, 0), Slip(0, 0)])
        self.assertIs(type(held.exception), NoSlip)
        self.assertTrue(same(held.exception.number, 1))


if __name__ == "__main__":
    unittest.main()

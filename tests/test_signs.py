"""Point [7]: signs and words. Python's own UTF-8 is the same writing, for signs to 65,535."""

import copy
import itertools
import random
import unittest

from plain import all_signs, as_utf8, fault_in
from slipwire.errors import Fault
from slipwire.signs import Signs, is_words, words_bytes, words_in
from things import same, things

EDGES = [0, 1, 65, 126, 127, 128, 129, 191, 192, 255, 2046, 2047, 2048, 2049, 4095, 4096, 8364, 55_294, 55_295,
         57_344, 57_345, 65_534, 65_535]
NO_SIGNS = [-1, 55_296, 55_297, 56_000, 57_342, 57_343, 65_536, 65_537, 2 ** 70, -65]


def told_of(codes):
    try:
        return words_in(codes)
    except Fault as refusal:
        return refusal.code, refusal.at


def put_all(codes):
    signs = Signs()
    for byte in codes:
        signs.put(byte)
    return signs


class IsWords(unittest.TestCase):
    def test_lists_of_signs(self):
        self.assertIs(is_words([]), True)
        self.assertIs(is_words(EDGES), True)
        self.assertIs(is_words(all_signs()[::61]), True)
        for sign in EDGES:
            self.assertIs(is_words([sign]), True)

    def test_each_number_near_the_bounds(self):
        for number in itertools.chain(range(-300, 3000), range(55_000, 57_600), range(65_000, 66_000)):
            wanted = 0 <= number <= 55_295 or 57_344 <= number <= 65_535
            self.assertIs(is_words([number]), wanted, number)
            self.assertIs(is_words([65, number, 66]), wanted, number)

    def test_a_tuple_is_none(self):
        self.assertIs(is_words(()), False)
        self.assertIs(is_words((65, 66)), False)

    def test_at_each_place_no_sign(self):
        for at, thing in itertools.product(range(3), NO_SIGNS + [True, False, None, "", "A", [], (), [65], (65,)]):
            words = [65, 8364, 0]
            words[at] = thing
            self.assertIs(is_words(words), False, words)

    def test_other_things(self):
        for thing in (None, True, False, 0, 65, "", "A", "65", (), (65,), [[]], [[65]], [(65,)], [()]):
            self.assertIs(is_words(thing), False, thing)

    def test_anything_six_deep(self):
        for thing in things():
            held = copy.deepcopy(thing)
            wanted = type(thing) is list and all(
                type(part) is int and 0 <= part <= 65_535 and not 55_296 <= part <= 57_343 for part in thing)
            self.assertIs(is_words(thing), wanted, thing)
            self.assertTrue(same(thing, held))

    def test_by_name(self):
        self.assertIs(is_words(thing=[65]), True)
        self.assertIs(is_words(thing=65), False)


class WordsBytes(unittest.TestCase):
    def test_worked_signs(self):
        rows = {0: [0], 127: [127], 128: [194, 128], 2047: [223, 191], 2048: [224, 160, 128], 8364: [226, 130, 172],
                55_295: [237, 159, 191], 57_344: [238, 128, 128], 65_535: [239, 191, 191]}
        for sign, row in rows.items():
            self.assertTrue(same(words_bytes([sign]), row), sign)
            self.assertTrue(same(words_in(row), [sign]), sign)

    def test_every_sign(self):
        for sign in all_signs():
            row = words_bytes([sign])
            self.assertEqual(row, as_utf8([sign]))
            self.assertEqual(words_in(row), [sign])

    def test_rows_of_signs(self):
        for words in ([], EDGES, EDGES * 40, EDGES[::-1], [65_535] * 1000, [127, 128] * 500):
            row = words_bytes(words)
            self.assertTrue(same(row, as_utf8(words)))
            self.assertTrue(same(words_in(row), words))

    def test_a_tuple_is_the_same(self):
        self.assertTrue(same(words_bytes((65, 8364)), [65, 226, 130, 172]))
        self.assertTrue(same(words_bytes(()), []))
        self.assertTrue(same(words_in((65, 226, 130, 172)), [65, 8364]))
        self.assertTrue(same(words_in(()), []))

    def test_by_name(self):
        self.assertEqual(words_bytes(words=[128]), [194, 128])
        self.assertEqual(words_in(codes=[194, 128]), [128])

    def test_what_is_handed_in_stays_and_what_is_told_is_the_askers_own(self):
        words, codes = [65, 8364], [65, 226, 130, 172]
        told, back = words_bytes(words), words_in(codes)
        told.append(1)
        back.append(1)
        self.assertEqual((words, codes), ([65, 8364], [65, 226, 130, 172]))
        self.assertEqual(words_bytes(words), codes)
        self.assertEqual(words_in(codes), words)

    def test_what_was_told_may_be_handed_in_again_whatever_its_size(self):
        words = all_signs()
        self.assertEqual(words_in(words_bytes(words)), words)


class WordsIn(unittest.TestCase):
    def test_bytes_that_begin_no_sign(self):
        for byte in range(256):
            for ahead in ([], [65], [226, 130, 172], [194, 128]):
                told = told_of(ahead + [byte] + [65])
                if 128 <= byte <= 193 or byte >= 240:
                    self.assertEqual(told, (14, len(ahead)), byte)
                elif byte >= 194:
                    self.assertEqual(told, (14, len(ahead) + 1), byte)
                else:
                    self.assertEqual(told, words_in(ahead) + [byte, 65])

    def test_second_bytes(self):
        for first in range(194, 240):
            for second in range(256):
                low = 160 if first == 224 else 128
                high = 159 if first == 237 else 191
                told = told_of([65, first, second, 128])
                if not low <= second <= high:
                    self.assertEqual(told, (14, 2), (first, second))
                elif first < 224:
                    self.assertEqual(told, (14, 3), (first, second))
                else:
                    self.assertEqual(told, [65, (first - 224) * 4096 + (second - 128) * 64])

    def test_third_bytes(self):
        for first, second in ((224, 160), (224, 191), (225, 128), (237, 128), (237, 159), (238, 191), (239, 128)):
            for third in range(256):
                told = told_of([first, second, third])
                if 128 <= third <= 191:
                    self.assertEqual(told, [(first - 224) * 4096 + (second - 128) * 64 + third - 128])
                else:
                    self.assertEqual(told, (14, 2))

    def test_an_end_within_a_sign_is_at_how_many_there_are(self):
        for ahead in ([], [65], [65] * 500, [226, 130, 172]):
            for rest in ([194], [223], [224], [226], [239], [224, 160], [226, 130], [237, 159], [239, 191]):
                self.assertEqual(told_of(ahead + rest), (14, len(ahead) + len(rest)))

    def test_as_pythons_own(self):
        draw = random.Random(7)
        pool = [65, 127, 128, 159, 160, 191, 192, 193, 194, 223, 224, 225, 236, 237, 238, 239, 240, 255]
        for _ in range(20_000):
            codes = [draw.choice(pool) for _ in range(draw.randrange(7))]
            at = fault_in(codes)
            wanted = [ord(sign) for sign in bytes(codes).decode("utf-8")] if at is None else (14, at)
            self.assertEqual(told_of(codes), wanted, codes)

    def test_the_first_fault_goes(self):
        self.assertEqual(told_of([65, 128, 255]), (14, 1))
        self.assertEqual(told_of([226, 65, 128]), (14, 1))
        self.assertEqual(told_of([226, 130, 226]), (14, 2))

    def test_the_refusal_is_a_fault(self):
        with self.assertRaises(Fault) as held:
            words_in([65, 255])
        self.assertIs(type(held.exception), Fault)
        self.assertTrue(same((held.exception.code, held.exception.at), (14, 1)))


class TheClass(unittest.TestCase):
    def test_new_ones(self):
        signs = Signs()
        self.assertTrue(same(signs.words(), []))
        self.assertTrue(same(signs.how_many(), 0))
        self.assertIs(signs.is_whole(), True)
        self.assertEqual((len(signs), str(signs), repr(signs), bool(signs)), (0, "", "Signs(0)", False))

    def test_byte_by_byte(self):
        signs = Signs()
        rows = [(65, 65, "65"), (226, None, "65 .."), (130, None, "65 .."), (172, 8364, "65 8364"),
                (194, None, "65 8364 .."), (128, 128, "65 8364 128"), (0, 0, "65 8364 128 0")]
        for many, (byte, told, shown) in enumerate(rows, 1):
            self.assertTrue(same(signs.put(byte), told))
            self.assertTrue(same(signs.how_many(), many))
            self.assertIs(signs.is_whole(), not shown.endswith(".."))
            words = [int(word) for word in shown.split() if word != ".."]
            self.assertTrue(same(signs.words(), words))
            self.assertEqual((len(signs), str(signs), repr(signs)), (len(words), shown, f"Signs({len(words)})"))

    def test_only_one_begun(self):
        signs = put_all([226])
        self.assertEqual((len(signs), str(signs), repr(signs), bool(signs)), (0, "..", "Signs(0)", False))
        self.assertIs(bool(put_all([65])), True)
        self.assertIs(bool(put_all([65, 226])), True)

    def test_every_sign_is_told_with_its_last_byte(self):
        signs = Signs()
        for sign in all_signs()[::17] + EDGES:
            told = [signs.put(byte) for byte in as_utf8([sign])]
            self.assertEqual(told[-1], sign)
            self.assertEqual(set(told[:-1]) - {None}, set())
        self.assertEqual(signs.words(), all_signs()[::17] + EDGES)

    def test_refused_bytes_change_nothing(self):
        for begun in ([], [65], [194], [226], [224], [237], [226, 130], [224, 160], [65, 66, 237, 159]):
            signs = put_all(begun)
            held = (signs.words(), signs.how_many(), signs.is_whole(), len(signs), str(signs), repr(signs))
            refused = [byte for byte in range(256) if fault_in(begun + [byte]) == len(begun)]
            self.assertTrue(refused)
            for byte in refused:
                with self.assertRaises(Fault) as caught:
                    signs.put(byte)
                self.assertTrue(same((caught.exception.code, caught.exception.at), (14, len(begun))))
                now = (signs.words(), signs.how_many(), signs.is_whole(), len(signs), str(signs), repr(signs))
                self.assertTrue(same(now, held))
                self.assertEqual(signs, put_all(begun))

    def test_what_is_begun_goes_on_behind_a_refusal(self):
        signs = put_all([65, 226, 130])
        with self.assertRaises(Fault):
            signs.put(65)
        self.assertEqual(signs.put(172), 8364)
        self.assertEqual((signs.words(), signs.how_many()), ([65, 8364], 4))

    def test_as_words_in(self):
        draw = random.Random(8)
        pool = [65, 127, 128, 159, 160, 191, 193, 194, 224, 226, 237, 239, 240]
        for _ in range(5000):
            codes = [draw.choice(pool) for _ in range(draw.randrange(8))]
            signs, taken = Signs(), []
            for byte in codes:
                try:
                    signs.put(byte)
                    taken.append(byte)
                except Fault as refusal:
                    self.assertEqual((refusal.code, refusal.at), (14, len(taken)))
                    self.assertEqual(fault_in(taken + [byte]), len(taken))
            self.assertEqual(signs.how_many(), len(taken))
            self.assertIs(signs.is_whole(), fault_in(taken) is None)
            if signs.is_whole():
                self.assertEqual(signs.words(), words_in(taken))

    def test_like_and_unlike(self):
        rows = [[], [65], [66], [65, 66], [66, 65], [226], [226, 130], [225], [65, 226], [65, 226, 130],
                [226, 130, 172], [194], [195], [194, 128], [65, 194]]
        for one, other in itertools.product(rows, rows):
            self.assertIs(put_all(one) == put_all(other), one == other, (one, other))
            self.assertIs(put_all(one) != put_all(other), one != other, (one, other))

    def test_like_nothing_of_another_class(self):
        for signs in (Signs(), put_all([65]), put_all([226])):
            for thing in [None, True, False, 0, 1, "", "65", "Signs(0)", [], [65], (), (65,), Fault(14, 0), object()]:
                self.assertIs(signs == thing, False, thing)
                self.assertIs(thing == signs, False, thing)
                self.assertIs(signs != thing, True, thing)
                self.assertIs(thing != signs, True, thing)

    def test_two_beside_one_another(self):
        one, other = Signs(), Signs()
        self.assertIsNone(one.put(226))
        self.assertEqual(other.put(65), 65)
        one.put(130)
        self.assertEqual(other.put(66), 66)
        self.assertEqual(one.put(172), 8364)
        self.assertEqual((one.words(), other.words()), ([8364], [65, 66]))
        self.assertEqual((one.how_many(), other.how_many()), (3, 2))

    def test_told_words_are_the_askers_own(self):
        signs = put_all([65])
        told = signs.words()
        told.append(66)
        self.assertEqual((signs.words(), len(signs), str(signs)), ([65], 1, "65"))
        signs.put(67)
        self.assertEqual(told, [65, 66])
        self.assertIsNot(signs.words(), signs.words())

    def test_by_name(self):
        self.assertEqual(Signs().put(byte=65), 65)


if __name__ == "__main__":
    unittest.main()

"""Point [13]: slips as texts."""

import itertools
import re
import unittest

from slipwire.errors import BadText
from slipwire.slips import Slip
from slipwire.sliptext import slip_in, slip_text
from things import same

SORTS = {0: "more", 1: "words", 2: "bytes", 8: "end", 9: "bell", 10: "echo"}
SIGNS = [chr(code) for code in range(32, 127)] + ["\n"]


def slips():
    for kind, talk, data, last, mask in itertools.product(
            SORTS, (0, 9, 10, 31), ((), (0,), (72, 105), (255, 0, 7), (100,) * 120, (5,) * 121), (True, False),
            (None, (0, 0, 0, 0), (1, 20, 255, 4))):
        if kind < 8 or last and len(data) < 121:
            yield Slip(kind, talk, data, last=last, mask=mask)


NUMBER = "(?:0|[1-9][0-9]{0,2})"
FORM = re.compile(f"(?:(?:more|words|bytes) ({NUMBER})(?: last)?|(end|bell|echo) ({NUMBER}))"
                  f"( mask(?: {NUMBER}){{4}})? :((?: {NUMBER})*)")


def is_written(text):
    """Whether a text is that of a slip, by its form and its numbers' bounds."""
    found = FORM.fullmatch(text)
    if not found:
        return False
    talk, control, control_talk, mask, data = found.groups()
    codes = [int(word) for word in (data + (mask or "").replace("mask", "")).split()]
    return int(talk or control_talk) < 32 and all(code < 256 for code in codes) and not (
        control and len(data.split()) > 120)


def told_of(text):
    try:
        return slip_in(text)
    except BadText as refusal:
        assert same(refusal.text, text)
        return None


class SlipText(unittest.TestCase):
    def test_worked_slips(self):
        self.assertTrue(same(slip_text(Slip(1, 3, [72, 105])), "words 3 last : 72 105"))
        self.assertTrue(same(slip_text(Slip(9, 0)), "bell 0 :"))
        self.assertEqual(slip_text(Slip(1, 3, [72], last=False)), "words 3 : 72")
        self.assertEqual(slip_text(Slip(0, 31, mask=(1, 2, 3, 4))), "more 31 last mask 1 2 3 4 :")
        self.assertEqual(slip_text(Slip(2, 4, [0, 255], last=False, mask=[0, 0, 9, 255])),
                         "bytes 4 mask 0 0 9 255 : 0 255")
        self.assertEqual(slip_text(Slip(8, 12, [0, 1, 65])), "end 12 : 0 1 65")
        self.assertEqual(slip_text(Slip(10, 7, [5], mask=(4, 3, 2, 1))), "echo 7 mask 4 3 2 1 : 5")

    def test_each_sort(self):
        for slip in slips():
            parts = [SORTS[slip.kind], slip.talk]
            parts += ["last"] if slip.last and slip.kind < 8 else []
            parts += ["mask", *slip.mask] if slip.mask is not None else []
            self.assertEqual(slip_text(slip), " ".join(map(str, [*parts, ":", *slip.data])))
            self.assertTrue(is_written(slip_text(slip)))

    def test_by_name(self):
        self.assertEqual(slip_text(slip=Slip(9, 0)), "bell 0 :")
        self.assertEqual(slip_in(text="bell 0 :"), Slip(9, 0))


class SlipIn(unittest.TestCase):
    def test_there_and_back(self):
        for slip in slips():
            told = slip_in(slip_text(slip))
            self.assertIs(type(told), Slip)
            self.assertEqual(told, slip)
            self.assertEqual(slip_text(told), slip_text(slip))
            self.assertTrue(same((told.kind, told.talk, told.data, told.last, told.mask),
                                 (slip.kind, slip.talk, slip.data, slip.last, slip.mask)))

    def test_great_ones(self):
        for size in (3000, 70_200):
            slip = Slip(2, 3, [place % 256 for place in range(size)], mask=(1, 2, 3, 4))
            self.assertEqual(slip_in(slip_text(slip)), slip)

    def test_a_sign_put_in_left_out_or_otherwise(self):
        for text in ("words 3 last : 72 105", "bell 0 :", "more 31 mask 1 20 3 4 : 5", "end 12 : 0 1"):
            for at in range(len(text) + 1):
                changed = [text[:at] + sign + text[at:] for sign in SIGNS]
                changed += [text[:at] + text[at + 1:]] + [text[:at] + sign + text[at + 1:] for sign in SIGNS]
                for other in changed:
                    # Some of these are other slips' own texts, but then just those.
                    told = told_of(other)
                    self.assertIs(told is not None, is_written(other), other)
                    self.assertTrue(told is None or slip_text(told) == other, other)

    def test_a_word_left_out_twice_or_exchanged(self):
        for text in ("words 3 last mask 1 20 30 4 : 72 105", "bell 0 mask 9 8 7 6 :", "more 31 : 5"):
            words = text.split(" ")
            for at in range(len(words)):
                in_data = at > words.index(":")
                told = told_of(" ".join(words[:at] + words[at + 1:]))
                self.assertIs(told is None, not in_data and words[at] != "last", (text, at))
                told = told_of(" ".join(words[:at + 1] + words[at:]))
                self.assertIs(told is None, not in_data, (text, at))
                for other in range(at):
                    row = list(words)
                    row[at], row[other] = row[other], row[at]
                    self.assertIs(told_of(" ".join(row)) is not None, is_written(" ".join(row)), row)

    def test_words_in_another_order(self):
        for text in ("3 words last :", "words last 3 :", "words 3 : last", "words 3 mask 1 2 3 4 last :",
                     "words 3 mask 1 2 last 3 4 :", "words mask 1 2 3 4 3 :", ": words 3", "last words 3 :",
                     "words 3 : : 5", "words 3 : 5 :", "words : 3", "mask 1 2 3 4 words 3 :", "words 3 mask last :",
                     "words 3 last last :", "bell 3 last :", "end 3 last : 0 1", "echo 3 last mask 1 2 3 4 :"):
            self.assertIsNone(told_of(text), text)

    def test_numbers(self):
        for wrong in ("00", "01", "05", "+5", "-5", "-0", "5.", "5.0", "1e1", "0x5", "five", "5_0", "", " ", "99999999",
                      "256", "1000", "4294967296", "9" * 5000):
            for text in (f"words 3 : {wrong}", f"words 3 : 1 {wrong} 2", f"words {wrong} :",
                         f"words 3 mask {wrong} 2 3 4 :", f"words 3 mask 1 2 3 {wrong} :"):
                self.assertIsNone(told_of(text), text)
        for talk in range(300):
            self.assertIs(told_of(f"bell {talk} :") is None, talk > 31)
            self.assertIs(told_of(f"bell 0 : {talk}") is None, talk > 255)
            self.assertIs(told_of(f"bell 0 mask 0 {talk} 0 0 :") is None, talk > 255)

    def test_masks_of_other_lengths(self):
        for many in range(7):
            text = " ".join(["words 3 mask"] + ["1"] * many + [":"])
            self.assertIs(told_of(text) is None, many != 4)

    def test_names_of_no_sort(self):
        for name in ("", "word", "Words", "WORDS", "letter", "0", "1", "8", "fault", "None", "masked", "last", ":"):
            self.assertIsNone(told_of(f"{name} 3 :"), name)

    def test_a_control_of_121_bytes(self):
        for kind, name in SORTS.items():
            for many in (119, 120, 121, 122):
                text = f"{name} 3 : " + " ".join(["7"] * many)
                self.assertIs(told_of(text) is None, kind > 7 and many > 120)

    def test_blanks_and_rows(self):
        for text in (" bell 0 :", "bell 0 : ", "bell  0 :", "bell 0  :", "bell 0 :\n", "\nbell 0 :",
                     "bell 0 :\nbell 0 :",
                     "bell\n0 :", "bell\t0 :", "bell 0:", "bell 0 :5", "bell 0", "bell", "bell :", ":", "", " ", "\n"):
            self.assertIsNone(told_of(text), text)

    def test_any_text_of_many_rows(self):
        self.assertIsNone(told_of("\n".join(["bell 0 : 5"] * 400)))
        self.assertIsNone(told_of("x" * 160_000))
        self.assertIsNone(told_of("9" * 160_000))
        self.assertIsNone(told_of(" " * 160_000))

    def test_str_of_a_slip_is_none(self):
        for slip in slips():
            self.assertIsNone(told_of(str(slip)))
            self.assertIsNone(told_of(repr(slip)))

    def test_the_refusal_is_a_bad_text(self):
        with self.assertRaises(BadText) as held:
            slip_in("bell 0")
        self.assertIs(type(held.exception), BadText)
        self.assertTrue(same(held.exception.text, "bell 0"))


if __name__ == "__main__":
    unittest.main()

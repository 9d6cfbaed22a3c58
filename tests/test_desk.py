"""Point [14]: the desk, by worked sheets, beside a Wire's own methods, and its rows word by word."""

import random
import re
import unittest

from slipwire.desk import answers
from slipwire.dumps import dump, event_text
from slipwire.errors import BadEnd, BadLetter, BadRow, BadSlip, Ended, NoByte
from slipwire.wire import Wire
from things import same

ROLES = ("caller", "keeper")

# A row of each form, as it may be written.
GOOD = ["send caller 3 words 72,8364", "send keeper 0 bytes 0,255", "bell caller 31 1,2", "close keeper 3 1",
        "go caller 5", "come keeper 9999999", "run", "bend caller 0 255", "break", "back", "state caller 31",
        "codes keeper 0", "dead caller", "fault keeper", "way caller", "deeds"]

NUMBER = "(?:0|[1-9][0-9]{0,6})"
NUMBERS = f"(?:-|{NUMBER}(?:,{NUMBER})*)"
ROLE = "(?:caller|keeper)"
FORM = re.compile(f"send {ROLE} (?P<t1>{NUMBER}) words (?P<words>{NUMBERS})|"
                  f"send {ROLE} (?P<t2>{NUMBER}) bytes (?P<b1>{NUMBERS})|"
                  f"bell {ROLE} (?P<t3>{NUMBER}) (?P<b2>{NUMBERS})|close {ROLE} (?P<t4>{NUMBER}) {NUMBER}|"
                  f"(?:go|come) {ROLE} {NUMBER}|bend {ROLE} {NUMBER} (?P<b3>{NUMBER})|"
                  f"(?:state|codes) {ROLE} (?P<t5>{NUMBER})|(?:dead|fault|way) {ROLE}|run|break|back|deeds")


def is_written(row):
    """Whether a row is written as it must be."""
    found = FORM.fullmatch(row)
    if not found:
        return False
    for name, text in found.groupdict().items():
        if text in (None, "-"):
            continue
        numbers = [int(word) for word in text.split(",")]
        bounds = {"t": range(32), "b": range(256), "w": [*range(55_296), *range(57_344, 65_536)]}[name[0]]
        if any(number not in bounds for number in numbers):
            return False
    return True


def row_of(text, **more):
    """The number of the row for which a sheet is refused, None where it isn't."""
    try:
        answers(text, **more)
    except BadRow as refusal:
        return refusal.row
    return None


def numbers_in(word):
    return [] if word == "-" else [int(part) for part in word.split(",")]


def listed(numbers):
    return ",".join(map(str, numbers)) or "-"


def by_methods(wire, row):
    """The answer to a row, by the Wire's own methods."""
    word, *rest = row.split(" ")
    role, told = (rest + [None])[0], rest[1:]
    dash = {None: "-"}
    if word == "send":
        return wire.send(role, int(told[0]), told[1], numbers_in(told[2])) or "done"
    if word == "bell":
        return wire.bell(role, int(told[0]), numbers_in(told[1])) or "done"
    if word == "close":
        return wire.close(role, int(told[0]), code=int(told[1])) or "done"
    if word == "bend":
        return wire.bend(role, int(told[0]), int(told[1])) or "done"
    if word == "go":
        return str(wire.go(role, many=int(told[0])))
    if word == "come":
        return " / ".join(map(event_text, wire.come(role, many=int(told[0])))) or "-"
    if word == "run":
        return " / ".join(who + " " + event_text(event) for who, event in wire.run()) or "-"
    if word == "break":
        return " / ".join(map(listed, wire.break_off()))
    if word == "back":
        return "yes" if wire.back() else "no"
    if word == "state":
        return wire.state(role, int(told[0]))
    if word == "codes":
        return " ".join(dash.get(code, str(code)) for code in wire.codes_of(role, int(told[0])))
    if word == "dead":
        return "yes" if wire.is_dead(role) else "no"
    if word == "fault":
        return " ".join(map(str, wire.fault(role) or ["-"]))
    if word == "way":
        return " / ".join(dump(wire.under_way(role)).split("\n")) or "-"
    return str(wire.deeds())


def answer_by_methods(wire, row):
    try:
        return by_methods(wire, row)
    except (Ended, BadLetter, BadSlip, BadEnd, NoByte) as refusal:
        return "refused " + type(refusal).__name__


def any_row(draw):
    role, talk = draw.choice(ROLES), draw.choice([0, 0, 1, 31])
    data = listed([draw.choice([0, 7, 65, 200, 255]) for _ in range(draw.choice([0, 1, 2, 5]))])
    many = draw.choice([0, 1, 3, 7, 20, 9_999_999])
    return draw.choice([
        f"send {role} {talk} words {draw.choice([data, '8364,65535', '-'])}", f"send {role} {talk} bytes {data}",
        f"send {role} {talk} bytes {data}", f"bell {role} {talk} {data}", f"bell {role} {talk} {listed([7] * 121)}",
        f"close {role} {talk} {draw.choice([0, 1, 9, 12, 17, 199, 200, 9_999_999])}", f"go {role} {many}",
        f"go {role} 9999999", f"come {role} {many}", f"come {role} 9999999", "run",
        f"bend {role} {draw.choice([0, 3, 9, 500])} {draw.choice([0, 64, 255])}", "back"])


def asks():
    return [f"{word} {role} {talk}" for word in ("state", "codes") for role in ROLES for talk in (0, 1, 31)] + [
        f"{word} {role}" for word in ("dead", "fault", "way") for role in ROLES] + ["deeds"]


class Answers(unittest.TestCase):
    def assert_answers(self, pairs, **more):
        """Rows with their answers, by hand; as a sheet, and with empty rows between."""
        rows, wanted = [row for row, _ in pairs], [answer for _, answer in pairs]
        self.assertTrue(same(answers("\n".join(rows), **more), wanted), answers("\n".join(rows), **more))
        self.assertTrue(same(answers("\n\n" + "\n\n\n".join(rows) + "\n", **more), wanted))

    def test_no_rows(self):
        for text in ("", "\n", "\n\n\n"):
            self.assertTrue(same(answers(text), []))

    def test_a_worked_sheet(self):
        self.assert_answers([
            ("state caller 3", "open"), ("codes caller 3", "- -"), ("dead caller", "no"), ("fault caller", "-"),
            ("way keeper", "-"), ("deeds", "0"), ("back", "no"),
            ("send caller 3 words 72,105", "done"), ("bell keeper 0 7", "done"), ("deeds", "2"),
            ("go caller 4", "4"), ("way keeper", "31 03 02 01"), ("way caller", "-"),
            ("come keeper 4", "-"), ("come keeper 4", "-"), ("go caller 9999999", "5"), ("go caller 1", "0"),
            ("come keeper 9999999", "letter 3 words 72,105"),
            ("close caller 3 5", "done"), ("state caller 3", "closing"), ("codes caller 3", "5 -"),
            ("state keeper 3", "open"),
            ("run", "keeper end 3 5 - / caller bell 0 7 / caller end 3 5 - / keeper echo 0 7"), ("run", "-"),
            ("state keeper 3", "ended"), ("codes keeper 3", "5 5"), ("deeds", "11"), ("back", "yes"), ("deeds", "10"),
            ("back", "yes"), ("state keeper 3", "open"), ("state caller 3", "closing"),
            ("break", "- / -"), ("go caller 9", "0"), ("come keeper 9", "-"), ("run", "-"), ("deeds", "13")])

    def test_words_and_bytes_of_none(self):
        self.assert_answers([
            ("send caller 0 words -", "done"), ("send caller 0 bytes -", "done"), ("bell caller 0 -", "done"),
            ("go caller 9999999", "21"), ("come keeper 9999999", "bell 0 - / letter 0 words - / letter 0 bytes -"),
            ("close keeper 0 0", "done"), ("run", "caller echo 0 - / caller end 0 0 - / keeper end 0 0 -"),
            ("codes caller 0", "0 0"), ("codes keeper 0", "0 0")])

    def test_the_edges_of_numbers(self):
        self.assert_answers([
            ("send keeper 31 words 0,55295,57344,65535", "done"), ("send keeper 31 bytes 0,255", "done"),
            ("run", "caller letter 31 words 0,55295,57344,65535 / caller letter 31 bytes 0,255"),
            ("close keeper 31 199", "done"), ("go keeper 0", "0"), ("come caller 0", "-"),
            ("run", "caller end 31 199 - / keeper end 31 199 -")])

    def test_faults(self):
        self.assert_answers([
            ("bell caller 0 1,2", "done"), ("go caller 9999999", "9"), ("way keeper", "39 00 02 01 02 03 04 00 00"),
            ("bend keeper 0 255", "done"), ("way keeper", "ff 00 02 01 02 03 04 00 00"),
            ("come keeper 9999999", "fault 10 0"), ("fault keeper", "10 0"), ("dead keeper", "yes"),
            ("dead caller", "no"), ("codes keeper 0", "10 -"), ("state keeper 0", "closing"),
            ("send keeper 9 bytes -", "refused Ended"), ("run", "caller end 0 10 -"), ("dead caller", "yes"),
            ("fault caller", "-"), ("codes caller 0", "- 10"), ("bell caller 5 -", "refused Ended")])

    def test_break(self):
        rows = [(f"send caller {talk} bytes {listed([talk] * 150)}", "done") for talk in (9, 3)]
        rows += [("send keeper 30 words " + listed([65] * 101), "done"), ("go caller 9999999", "328"),
                 ("come keeper 214", "-"), ("go keeper 103", "103"), ("come caller 9999999", "-"),
                 ("break", "30 / 3,9"), ("break", "30 / 3,9"), ("way keeper", "-"), ("back", "yes"),
                 ("go caller 1", "0"), ("back", "yes"), ("back", "yes"), ("way keeper", None)]
        told = answers("\n".join(row for row, _ in rows))
        self.assertEqual(told[:-1], [answer for _, answer in rows[:-1]])
        self.assertEqual(len(told[-1].split(" / ")), 8)

    def test_way_of_several_rows(self):
        told = answers("send keeper 0 bytes " + listed(range(32)) + "\ngo keeper 16\nway caller\ngo keeper 1\n"
                       "way caller\ngo keeper 9999999\nway caller")
        first = "22 00 20 00 01 02 03 04 05 06 07 08 09 0a 0b 0c"
        self.assertEqual(told[2], first)
        self.assertEqual(told[4], first + " / 0d")
        self.assertEqual(told[6], first + " / 0d 0e 0f 10 11 12 13 14 15 16 17 18 19 1a 1b 1c / 1d 1e 1f")

    def test_each_sort_of_refusal(self):
        self.assert_answers([
            ("bell caller 0 " + listed([1] * 120), "done"), ("bell caller 0 " + listed([1] * 121), "refused BadSlip"),
            ("close caller 0 10", "refused BadEnd"), ("close caller 0 16", "refused BadEnd"),
            ("close caller 0 200", "refused BadEnd"), ("close caller 0 9999999", "refused BadEnd"),
            ("bend keeper 0 0", "refused NoByte"), ("bend keeper 9999999 0", "refused NoByte"), ("deeds", "1"),
            ("close caller 0 0", "done"), ("close caller 0 200", "refused Ended"),
            ("close caller 0 1", "refused Ended"),
            ("send caller 0 words -", "refused Ended"), ("bell caller 0 " + listed([1] * 121), "refused Ended"),
            ("send keeper 0 words -", "done"), ("deeds", "3"), ("back", "yes"), ("back", "yes"), ("back", "yes"),
            ("back", "no"), ("state caller 0", "open")])

    def test_most(self):
        rows = "send caller 0 bytes 1,2,3\nrun"
        self.assertEqual(answers(rows, most=3), ["done", "keeper letter 0 bytes 1,2,3"])
        self.assertEqual(answers(rows, most=2), ["done", "keeper fault 15 2 / caller end 0 15 -"])
        self.assertEqual(answers(text=rows, most=1)[1][:15], "keeper fault 15")
        rows = "send caller 0 bytes " + listed([7] * 99)
        self.assertEqual(answers(rows + "\nrun")[1], "keeper letter 0 bytes " + listed([7] * 99))
        with self.assertRaises(TypeError):
            answers("", 5)

    def test_400_rows(self):
        rows = [f"send {ROLES[number % 2]} {number % 32} bytes {number % 256}" for number in range(199)] + ["run"]
        rows += ["deeds"] * 200
        told = answers("\n".join(rows))
        self.assertEqual(told[:199] + told[200:], ["done"] * 199 + ["200"] * 200)
        self.assertEqual(len(told[199].split(" / ")), 199)

    def test_each_sheet_has_a_wire_of_its_own(self):
        for _ in range(2):
            self.assertEqual(answers("bell caller 0 -\ndeeds"), ["done", "1"])


class Beside(unittest.TestCase):
    def sheets(self, seed):
        draw = random.Random(seed)
        for _ in range(250):
            rows = [any_row(draw) for _ in range(draw.randrange(20))]
            if draw.random() < 0.2:
                rows.insert(draw.randrange(len(rows) + 1), "break")
            yield draw, rows

    def test_a_wires_own_methods(self):
        seen = set()
        for draw, rows in self.sheets(70):
            rows = [one for row in rows for one in ([row] + draw.sample(asks(), 2))]
            most = draw.choice([3, 4096])
            wire = Wire(most=most)
            wanted = [answer_by_methods(wire, row) for row in rows]
            self.assertTrue(same(answers("\n".join(rows), most=most), wanted), rows)
            seen |= {answer for answer in wanted if answer.startswith("refused")}
        self.assertEqual(seen, {"refused Ended", "refused BadSlip", "refused BadEnd", "refused NoByte"})

    def test_asks_and_empty_rows_left_out_change_no_other_answer(self):
        for draw, rows in self.sheets(71):
            plain = answers("\n".join(rows))
            mixed = [one for row in rows for one in (draw.sample(asks(), 3) + ["", row])]
            told = answers("\n".join(mixed))
            mixed = [row for row in mixed if row]
            self.assertEqual([answer for row, answer in zip(mixed, told) if row not in asks()], plain)


class Rows(unittest.TestCase):
    def assert_refused(self, row, goes=False):
        """Whether it's refused, with its own number, ahead of all that stands behind it."""
        self.assertIs(is_written(row), goes, row)
        if goes:
            self.assertIsNone(row_of(row), row)
            return
        self.assertTrue(same(row_of(row), 0), row)
        self.assertTrue(same(row_of("bell caller 0 -\n\n" + row + "\nx\n" + row), 2), row)
        self.assertTrue(same(row_of("close caller 0 200\n" + row), 1), row)

    def assert_as_written(self, row):
        if row:
            self.assert_refused(row, is_written(row))

    def test_good_rows(self):
        for row in GOOD:
            self.assert_refused(row, True)

    def test_a_word_left_out_or_twice_or_otherwise(self):
        others = ["", "x", "0", "00", "1", "01", "31", "32", "031", "255", "256", "0255", "-", "-1", "+1", "1.0", "1,",
                  ",1", "1,,2", "1, 2", "1,2", "01,2", "1,02", "-,1", "1,-", "65535", "65536", "55295", "55296",
                  "57343", "57344", "9999999", "10000000", "09999999", "999999999999", "caller", "keeper", "Caller",
                  "CALLER", "callers", "ROLE", "TALK", "SIGNS", "words", "bytes", "Words", "word", "send", "run",
                  "SEND", "none", "None", "True", "0x1", "1_0", "1e1"]
        for row in GOOD:
            words = row.split(" ")
            for at in range(len(words)):
                self.assert_as_written(" ".join(words[:at] + words[at + 1:]))
                self.assert_as_written(" ".join(words[:at + 1] + words[at:]))
                for other in others:
                    self.assert_as_written(" ".join(words[:at] + [other] + words[at + 1:]))

    def test_a_word_more(self):
        for row in GOOD:
            for more in ("x", "0", "1", "caller", "-", ""):
                self.assert_refused(row + " " + more)
                self.assert_refused(more + " " + row)

    def test_blanks(self):
        for row in GOOD:
            self.assert_refused(" " + row)
            self.assert_refused(row + " ")
            self.assert_refused(row + "\t")
            if " " in row:
                self.assert_refused(row.replace(" ", "  "))
                self.assert_refused(row.replace(" ", "  ", 1))
                self.assert_refused(row.replace(" ", "\t"))
        for row in (" ", "  ", "\t"):
            self.assert_refused(row)

    def test_great_letters(self):
        for row in GOOD:
            self.assert_refused(row.upper())
            self.assert_refused(row.title())

    def test_numbers_at_their_bounds_and_beyond(self):
        for form, goes in (("send caller {} words -", 31), ("send caller {} bytes -", 31), ("bell keeper {} -", 31),
                           ("close caller {} 1", 31), ("state caller {}", 31), ("codes caller {}", 31),
                           ("send caller 0 bytes {}", 255), ("send caller 0 bytes 1,{},2", 255),
                           ("bell caller 0 {}", 255), ("bend caller 0 {}", 255),
                           ("bend caller {} 0", 9_999_999), ("close caller 0 {}", 9_999_999),
                           ("go caller {}", 9_999_999), ("come caller {}", 9_999_999),
                           ("send caller 0 words {}", 65_535), ("send caller 0 words 1,{}", 65_535)):
            for number in (0, 1, goes - 1, goes):
                self.assert_refused(form.format(number), True)
                self.assert_refused(form.format("0" + str(number)))
            for number in (goes + 1, goes * 10 + 10, 10_000_000, 10 ** 30, -1):
                self.assert_refused(form.format(number))

    def test_signs(self):
        for sign in (55_295, 55_296, 56_000, 57_343, 57_344, 65_535, 65_536):
            goes = sign not in range(55_296, 57_344) and sign < 65_536
            self.assert_refused(f"send caller 0 words {sign}", goes)
            self.assert_refused(f"send caller 0 words 65,{sign},66", goes)

    def test_what_no_sheet_has(self):
        for row in ("as_told 3", "twin", "log", "told caller", "is_open", "break_off", "under_way caller",
                    "waits caller", "deeds caller", "run caller", "back 1", "send caller 0 more 1", "close caller 0",
                    "go caller", "come", "close caller 0 1 65", "bell caller 0", "send caller 0 words", "#", "# run"):
            self.assert_refused(row)

    def test_all_rows_are_counted_and_the_first_goes(self):
        self.assertEqual(row_of("\n\nrun\n\nrum\nx"), 4)
        self.assertEqual(row_of("\n" * 399 + "x"), 399)
        self.assertEqual(row_of("run\nrun\nrun "), 2)

    def test_the_refusal_is_a_bad_row(self):
        with self.assertRaises(BadRow) as held:
            answers("run\nwalk")
        self.assertIs(type(held.exception), BadRow)
        self.assertTrue(same(held.exception.row, 1))


if __name__ == "__main__":
    unittest.main()

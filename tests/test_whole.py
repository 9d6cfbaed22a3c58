"""Point [1]: what is promised over the whole program."""

import random
import unittest

from draws import any_codes, bent
from slipwire.cutting import joined_in, slips_for
from slipwire.dumps import dump, dumped_in, event_text
from slipwire.errors import BadEnd, BadLetter, BadSlip, Ended
from slipwire.masks import masked
from slipwire.reading import Reader, events_of
from slipwire.reports import fault_of, remasked, report, shows_fault, shows_report, whole_to
from slipwire.slips import slip_at
from slipwire.sliptext import slip_in, slip_text
from slipwire.wire import Wire
from things import same

ROLES = ("caller", "keeper")


def any_wire(draw, **made):
    """A Wire whose posts have done some deeds, of which nothing has gone yet, and none that was refused."""
    wire = Wire(**made)
    for _ in range(draw.randrange(1, 12)):
        role, talk = draw.choice(ROLES), draw.choice([0, 1, 2, 31])
        data = [draw.randrange(256) for _ in range(draw.choice([0, 1, 5, 130]))]
        try:
            draw.choice([lambda: wire.send(role, talk, "words", data), lambda: wire.send(role, talk, "bytes", data),
                         lambda: wire.bell(role, talk, data[:120]), lambda: wire.close(role, talk, words=data[:40])])()
        except (Ended, BadLetter, BadSlip, BadEnd) as refusal:
            assert isinstance(refusal, Ended)
    return wire


def slips_of(codes, masks):
    slips, at = [], 0
    while at < len(codes):
        slip, at = slip_at(codes, at, masks=masks)
        slips.append(slip)
    return slips


class Bytes(unittest.TestCase):
    def test_bytes_of_a_wire_read_reported_masked_and_written_are_the_same(self):
        draw = random.Random(80)
        for _ in range(150):
            wire = any_wire(draw, every=draw.choice([1, 7, 100]))
            for role, masks in (("keeper", True), ("caller", False)):
                wire.go(ROLES[role == "caller"])
                codes = wire.under_way(role)
                events = events_of(codes, masks=masks)
                slips = slips_of(codes, masks)
                self.assertEqual([byte for slip in slips for byte in slip.codes()], codes)
                # As texts, and read back.
                self.assertEqual([slip_in(slip_text(slip)) for slip in slips], slips)
                self.assertTrue(same(dumped_in(dump(codes)), codes))
                # Reported: each byte once, all of them whole.
                spans = report(codes, masks=masks)
                self.assertEqual(sum(many for _, _, many in spans), len(codes))
                self.assertIs(shows_report(codes, spans, masks=masks), True)
                self.assertEqual([span[0] for span in spans if span[1] == "head"],
                                 [sum(map(len, slips[:number])) for number in range(len(slips))])
                self.assertIsNone(fault_of(codes, masks=masks))
                # The other way about, masked or unmasked, and as it was.
                other = remasked(codes, (1, 2, 3, 4), masks=masks)
                self.assertTrue(same(events_of(other, masks=not masks), events))
                self.assertTrue(same(remasked(other, (1, 2, 3, 4), masks=not masks), codes))
                # Joined by their slips alone; all that comes to the post is what was read.
                letters = [event[1:] for event in events if event[0] == "letter"]
                self.assertTrue(same(joined_in(slips), letters))
                self.assertTrue(same(wire.twin().come(role), events))

    def test_masked_twice_is_unmasked(self):
        draw = random.Random(81)
        for _ in range(200):
            codes = [draw.randrange(256) for _ in range(draw.randrange(40))]
            mask, start = [draw.randrange(256) for _ in range(4)], draw.randrange(2 ** 24)
            self.assertEqual(masked(masked(codes, mask, start=start), mask, start=start), codes)

    def test_bytes_behind_a_fault_or_an_end_of_a_faults_code_change_nothing_told(self):
        draw, faults, stops = random.Random(82), 0, 0
        for number in range(2500):
            masks, most = number % 2 == 1, draw.choice([5, 4096])
            codes = bent(draw, any_codes(draw, masks))
            reader = Reader(masks, most=most)
            events = reader.put(codes)
            fault = reader.fault()
            stopped = fault is not None or events and events[-1][0] == "end" and events[-1][2] in range(10, 17)
            if not stopped:
                continue
            faults, stops = faults + (fault is not None), stops + (fault is None)
            read = codes[:reader.how_far()]
            for behind in ([], [0], [255] * 5, any_codes(draw, masks)):
                row = read + behind
                told = (events_of(row, masks=masks, most=most), report(row, masks=masks, most=most),
                        fault_of(row, masks=masks, most=most), whole_to(row, masks=masks, most=most))
                self.assertTrue(same(told, (events, report(read, masks=masks, most=most), fault,
                                            whole_to(read, masks=masks, most=most))))
                self.assertIs(shows_fault(row, fault, masks=masks, most=most), fault is not None)
                if fault is None:
                    self.assertEqual(remasked(row, (1, 2, 3, 4), masks=masks, most=most),
                                     remasked(read, (1, 2, 3, 4), masks=masks, most=most))
        self.assertGreater(min(faults, stops), 50)


class Letters(unittest.TestCase):
    def test_letters_cut_otherwise_come_the_same(self):
        draw = random.Random(83)
        for _ in range(200):
            talk, word = draw.randrange(32), draw.choice(["words", "bytes"])
            data = [draw.choice([0, 65, 127, 128, 255]) for _ in range(draw.randrange(60))]
            for _ in range(4):
                sizes = [draw.choice([0, 1, 2, 30]) for _ in range(draw.randrange(6))]
                every, role = draw.choice([1, 3, 100]), draw.choice(ROLES)
                wire = Wire()
                wire.send(role, talk, word, data, sizes=sizes, every=every)
                other = ROLES[role == "caller"]
                self.assertTrue(same(wire.run(), [(other, ("letter", talk, word, data))]))
                self.assertTrue(same(joined_in(slips_for(talk, word, data, sizes=sizes, every=every)),
                                     [(talk, word, data)]))

    def test_a_letter_of_just_the_most_bytes_comes_and_of_one_more_is_at_fault(self):
        for most, every in ((1, 1), (10, 3), (10, 100), (4096, 1000), (70_000, 70_000)):
            for role, other in (ROLES, ROLES[::-1]):
                wire = Wire(most=most, every=every)
                wire.send(role, 3, "bytes", [7] * most)
                self.assertEqual(wire.run(), [(other, ("letter", 3, "bytes", [7] * most))])
                wire.back()
                wire.back()
                wire.send(role, 3, "bytes", [7] * (most + 1))
                wire.go(role)
                codes = wire.under_way(other)
                code, at = fault_of(codes, masks=other == "keeper", most=most)
                self.assertEqual(code, 15)
                # The byte that tells it is the last one of the size of the slip that has too many.
                spans = report(codes, masks=other == "keeper", most=most)
                self.assertEqual((spans[-1][1], sum(spans[-1][::2]) - 1), ("size", at))
                self.assertEqual(wire.run()[0], (other, ("fault", 15, at)))

    def test_bytes_that_come_in_pieces_come_the_same(self):
        draw = random.Random(84)
        for _ in range(60):
            first = any_wire(draw, every=3)
            rows = []
            for many in (1, 2, 9, 10 ** 7):
                wire = first.twin()
                moved = True
                while moved:
                    moved = False
                    for role, other in (ROLES, ROLES[::-1]):
                        # All goes as in a run, only that it comes in pieces.
                        moved = wire.go(role) > 0 or moved
                        while wire.under_way(other):
                            wire.come(other, many=many)
                rows.append([wire.told(role) for role in ROLES])
            self.assertTrue(all(same(row, rows[0]) for row in rows))
            first.run()
            self.assertTrue(same([first.told(role) for role in ROLES], rows[0]))

    def test_a_caller_and_a_keeper_exchanged_tell_the_same(self):
        for word, data in (("words", [72, 8364]), ("bytes", [0, 255])):
            rows = []
            for role, other in (ROLES, ROLES[::-1]):
                wire = Wire(every=1)
                wire.send(role, 3, word, data)
                wire.bell(other, 4, [1])
                for one, two in ((role, other), (other, role)) * 4:
                    wire.go(one)
                    wire.come(two)
                wire.close(other, 3, code=7, words=[65])
                for one, two in ((role, other), (other, role)) * 4:
                    wire.go(one)
                    wire.come(two)
                rows.append([(wire.told(one), wire.state(one, 3), wire.codes_of(one, 3)) for one in (role, other)])
            self.assertTrue(same(rows[0], rows[1]))
            self.assertEqual([event_text(event) for event in rows[0][0][0]], ["bell 4 1", "end 3 7 65"])


if __name__ == "__main__":
    unittest.main()

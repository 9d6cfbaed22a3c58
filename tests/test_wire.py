"""Point [11]: a wire with both its posts, by worked deeds."""

import copy
import itertools
import unittest

from plain import slip_row
from slipwire.errors import BadEnd, BadLetter, BadSlip, Ended, NoByte, NoDeed
from slipwire.reading import events_of
from slipwire.wire import Wire
from things import same

MORE, WORDS, BYTES, END, BELL, ECHO = 0, 1, 2, 8, 9, 10
ROLES = ("caller", "keeper")
BOTH = (ROLES, ROLES[::-1])
DEEDS = ("send", "bell", "close", "go", "come", "run", "bend", "break_off")


def standing(wire):
    """All that a wire tells when asked, but its log."""
    return (wire.deeds(), wire.is_broken(), wire.is_open(), repr(wire),
            [(wire.told(role), wire.is_dead(role), wire.fault(role), wire.under_way(role),
              [wire.state(role, talk) for talk in range(32)], [wire.codes_of(role, talk) for talk in range(32)])
             for role in ROLES])


def field_of(refusal):
    return next(getattr(refusal, name) for name in ("talk", "part", "at", "many") if hasattr(refusal, name))


def refusal_of(deed):
    try:
        deed()
    except (Ended, BadLetter, BadSlip, BadEnd, NoByte, NoDeed) as refusal:
        return type(refusal), field_of(refusal)
    return None


def rest_of(wire):
    """What a wire would still tell, if all of it ran."""
    twin = wire.twin()
    return twin.run(), standing(twin)


def worked_deeds():
    """Deeds of each kind, with what each of them tells."""
    return [("send", ("caller", 3, "words", [72, 105]), {"sizes": [1]}, None),
            ("bell", ("keeper", 0, [7]), {}, None),
            ("go", ("caller",), {"many": 11}, 11),
            ("come", ("keeper",), {"many": 9}, []),
            ("go", ("keeper",), {}, 4),
            ("close", ("keeper", 3), {"code": 5, "words": [65]}, None),
            ("come", ("caller",), {}, [("bell", 0, [7])]),
            ("go", ("caller",), {}, 13),
            ("come", ("keeper",), {"many": 7}, [("letter", 3, "words", [72, 105])]),
            # The mask of slip 2 is (3, 8, 13, 18), so the echo's byte 7 is under way as 4, and 7 there means 4.
            ("bend", ("keeper", 7, 7), {}, None),
            ("come", ("keeper",), {}, [("echo", 0, [4])]),
            ("run", (), {}, [("caller", ("end", 3, 5, [65])), ("keeper", ("end", 3, 5, []))]),
            ("send", ("keeper", 1, "bytes", [9]), {"sizes": [0], "every": 3}, None),
            ("go", ("keeper",), {"many": 3}, 3),
            ("come", ("caller",), {}, []),
            ("break_off", (), {}, ([1], [])),
            ("go", ("keeper",), {}, 0),
            ("come", ("caller",), {}, []),
            ("run", (), {}, [])]


class Deeds(unittest.TestCase):
    def test_a_new_wire(self):
        wire = Wire()
        side = ([], False, None, [], ["open"] * 32, [(None, None)] * 32)
        self.assertTrue(same(standing(wire), (0, False, True, "Wire(0)", [side, side])))
        self.assertTrue(same(wire.log(), []))
        self.assertIs(bool(wire), True)

    def test_worked_deeds(self):
        wire = Wire()
        for number, (word, told, more, answer) in enumerate(worked_deeds()):
            self.assertTrue(same(getattr(wire, word)(*told, **more), answer), (number, word))
            self.assertEqual((wire.deeds(), repr(wire)), (number + 1, f"Wire({number + 1})"))
        self.assertTrue(same(wire.told("caller"), [("bell", 0, [7]), ("end", 3, 5, [65])]))
        self.assertTrue(same(wire.told("keeper"), [("letter", 3, "words", [72, 105]), ("echo", 0, [4]),
                                                   ("end", 3, 5, [])]))

    def test_under_way(self):
        wire = Wire()
        wire.send("caller", 3, "words", [72, 105])
        wire.send("keeper", 4, "bytes", [5])
        self.assertTrue(same(wire.go("caller", many=4), 4))
        self.assertTrue(same((wire.under_way("keeper"), wire.under_way("caller")), ([49, 3, 2, 1], [])))
        self.assertTrue(same(wire.go("keeper"), 4))
        self.assertTrue(same(wire.go("caller", many=10 ** 7), 5))
        self.assertEqual(wire.under_way("keeper"), [49, 3, 2, 1, 2, 3, 4, 73, 107])
        self.assertEqual(wire.under_way("caller"), [34, 4, 1, 5])
        self.assertTrue(same(wire.come("keeper", many=8), []))
        self.assertEqual(wire.under_way("keeper"), [107])
        self.assertTrue(same(wire.come("keeper", many=8), [("letter", 3, "words", [72, 105])]))
        self.assertTrue(same((wire.come("caller"), wire.under_way("caller")), ([("letter", 4, "bytes", [5])], [])))
        self.assertTrue(same((wire.go("caller"), wire.come("keeper"), wire.run()), (0, [], [])))
        self.assertTrue(same((wire.go("caller", many=0), wire.come("keeper", many=0)), (0, [])))

    def test_made_by_mask_most_and_every(self):
        wire = Wire(mask=[9, 8, 7, 6], most=4, every=2)
        wire.send("caller", 0, "bytes", [0, 0, 0])
        wire.send("keeper", 0, "bytes", [1] * 5, every=5)
        wire.go("caller")
        wire.go("keeper")
        self.assertEqual(wire.under_way("keeper"), slip_row(BYTES, 0, [0, 0], last=False, mask=(9, 8, 7, 6))
                         + slip_row(MORE, 0, [0], mask=(10, 11, 12, 13)))
        self.assertEqual(wire.run(), [("keeper", ("letter", 0, "bytes", [0, 0, 0])), ("caller", ("fault", 15, 2)),
                                      ("keeper", ("end", 0, 15, []))])
        wire = Wire()
        wire.send("caller", 0, "bytes", [0] * 250)
        wire.go("caller")
        self.assertEqual(wire.under_way("keeper")[:7], [18, 0, 100, 1, 2, 3, 4])

    def test_letters_of_both_cross(self):
        wire = Wire(every=2)
        for talk, (role, _) in itertools.product((0, 5, 31), BOTH):
            wire.send(role, talk, "words", [65, 8364, talk])
            wire.send(role, talk, "bytes", [talk] * 5, every=1)
        told = wire.run()
        for role in ROLES:
            for talk in (0, 5, 31):
                self.assertEqual([event for who, event in told if who == role and event[1] == talk],
                                 [("letter", talk, "words", [65, 8364, talk]), ("letter", talk, "bytes", [talk] * 5)])
            self.assertTrue(same(wire.told(role), [event for who, event in told if who == role]))

    def test_run_in_order(self):
        wire = Wire()
        wire.bell("caller", 1, [1])
        wire.bell("keeper", 2, [2])
        wire.close("caller", 3, code=0)
        wire.send("keeper", 4, "words", [65])
        self.assertTrue(same(wire.run(), [
            ("keeper", ("bell", 1, [1])), ("keeper", ("end", 3, 0, [])), ("caller", ("bell", 2, [2])),
            ("caller", ("echo", 1, [1])), ("caller", ("end", 3, 0, [])), ("caller", ("letter", 4, "words", [65])),
            ("keeper", ("echo", 2, [2]))]))
        self.assertTrue(same(wire.run(), []))
        self.assertEqual(wire.deeds(), 6)

    def test_run_takes_what_is_under_way(self):
        wire = Wire()
        wire.send("keeper", 4, "words", [65])
        wire.bell("caller", 0)
        wire.go("keeper", many=2)
        wire.go("caller", many=3)
        wire.come("keeper", many=1)
        self.assertEqual(wire.run(), [("keeper", ("bell", 0, [])), ("caller", ("letter", 4, "words", [65])),
                                      ("caller", ("echo", 0, []))])
        self.assertEqual([wire.under_way(role) for role in ROLES], [[], []])

    def test_run_is_as_going_and_coming_by_turns(self):
        one, other = Wire(every=1), Wire(every=1)
        for wire in (one, other):
            wire.send("caller", 1, "bytes", [1, 2, 3])
            wire.bell("keeper", 2, [3])
            wire.close("keeper", 1)
            wire.bell("caller", 1)
        pairs = []
        for _ in range(4):
            for role, to in BOTH:
                other.go(role)
                pairs += [(to, event) for event in other.come(to)]
        self.assertTrue(same(one.run(), pairs))
        self.assertEqual(standing(one)[4], standing(other)[4])

    def test_echoes(self):
        for role, other in BOTH:
            wire = Wire()
            for number in range(5):
                wire.bell(role, number, [number])
            wire.bell(role, 0)
            wire.run()
            self.assertEqual(wire.told(role), [("echo", talk, [talk]) for talk in range(5)] + [("echo", 0, [])])
            self.assertEqual(wire.told(other), [("bell", talk, [talk]) for talk in range(5)] + [("bell", 0, [])])

    def test_no_echo_where_the_answering_end_has_begun_to_go(self):
        for role, other in BOTH:
            wire = Wire()
            wire.close(other, 3)
            wire.go(other, many=1)
            wire.bell(role, 3)
            self.assertEqual([event for _, event in wire.run() if event[0] == "echo"], [])
            self.assertEqual([wire.codes_of(one, 3) for one in ROLES], [(1, 1), (1, 1)])

    def test_most_and_one_more(self):
        for most in (1, 300, 3000):
            for role, other in BOTH:
                wire = Wire(most=most)
                wire.send(role, 3, "bytes", [9] * most)
                self.assertEqual(wire.run(), [(other, ("letter", 3, "bytes", [9] * most))])
                wire.send(role, 3, "bytes", [9] * (most + 1))
                self.assertEqual([(who, event[:2]) for who, event in wire.run()],
                                 [(other, ("fault", 15)), (role, ("end", 0))])
                self.assertEqual([wire.is_dead(one) for one in ROLES], [True, True])
                self.assertEqual(wire.fault(other)[0], 15)
                self.assertIsNone(wire.fault(role))

    def test_70000_bytes(self):
        data = [place % 256 for place in range(70_000)]
        wire = Wire(most=70_000, every=70_000)
        wire.send("caller", 3, "bytes", data)
        self.assertEqual(wire.run(), [("keeper", ("letter", 3, "bytes", data))])

    def test_200_deeds(self):
        wire = Wire()
        for number in range(100):
            wire.send(ROLES[number % 2], number % 32, "bytes", [number] * 30)
            wire.go(ROLES[number % 2], many=17)
        self.assertEqual(wire.deeds(), 200)
        held = standing(wire)
        self.assertEqual(standing(wire.as_told(200)), held)
        for number in range(200):
            self.assertIs(wire.back(), True)
        self.assertIs(wire.back(), False)
        self.assertEqual(standing(wire), standing(Wire()))


class Bent(unittest.TestCase):
    def test_at_each_place(self):
        first = Wire()
        first.send("caller", 3, "words", [72, 105])
        first.bell("caller", 0, [5])
        first.go("caller")
        codes = first.under_way("keeper")
        for at, byte in itertools.product(range(len(codes)), (0, 64, 255)):
            wire = first.twin()
            self.assertIsNone(wire.bend("keeper", at, byte))
            bent = codes[:at] + [byte] + codes[at + 1:]
            self.assertTrue(same((wire.under_way("keeper"), wire.under_way("caller")), (bent, [])))
            self.assertTrue(same(wire.come("keeper"), events_of(bent, masks=True)))
            self.assertEqual(first.under_way("keeper"), codes)

    def test_places_are_counted_among_those_under_way(self):
        wire = Wire()
        wire.bell("keeper", 0, [5, 6])
        wire.go("keeper")
        wire.come("caller", many=3)
        wire.bend("caller", 1, 9)
        self.assertEqual(wire.come("caller"), [("bell", 0, [5, 9])])

    def test_where_there_is_none(self):
        wire = Wire()
        wire.bell("keeper", 0, [5])
        for at, role in itertools.product((0, 1, 3000), ROLES):
            self.assertEqual(refusal_of(lambda: wire.bend(role, at, 7)), (NoByte, at))
        wire.go("keeper", many=2)
        self.assertEqual(refusal_of(lambda: wire.bend("caller", 2, 7)), (NoByte, 2))
        self.assertEqual(refusal_of(lambda: wire.bend("caller", 10 ** 7, 7)), (NoByte, 10 ** 7))
        self.assertEqual(refusal_of(lambda: wire.bend("keeper", 0, 7)), (NoByte, 0))
        self.assertEqual(refusal_of(lambda: wire.bend("caller", -1, 7)), (NoByte, -1))
        self.assertEqual((wire.under_way("caller"), wire.deeds()), ([41, 0], 2))

    def test_the_others_end_follows_a_fault(self):
        wire = Wire()
        wire.send("caller", 0, "bytes", [1])
        wire.close("keeper", 0)
        wire.go("caller")
        wire.bend("keeper", 0, 255)
        self.assertEqual(wire.run(), [("keeper", ("fault", 10, 0)), ("caller", ("end", 0, 10, []))])
        self.assertTrue(same([wire.fault(role) for role in ROLES], [None, (10, 0)]))
        self.assertEqual([wire.codes_of(role, 0) for role in ROLES], [(None, 10), (10, None)])
        self.assertEqual(refusal_of(lambda: wire.send("caller", 9, "bytes", [])), (Ended, 9))


class Broken(unittest.TestCase):
    def broken_wire(self):
        wire = Wire(every=1)
        wire.send("caller", 3, "bytes", [1, 2])
        wire.send("caller", 9, "bytes", [1, 2])
        wire.send("caller", 1, "bytes", [1])
        wire.send("keeper", 5, "words", [8364])
        wire.go("caller", many=8 * 3 + 2)
        wire.come("keeper")
        wire.go("keeper", many=9)
        wire.come("caller", many=5)
        return wire

    def test_with_letters_begun(self):
        wire = self.broken_wire()
        self.assertIs(wire.is_broken(), False)
        self.assertTrue(same(wire.break_off(), ([5], [3, 9])))
        self.assertIs(wire.is_broken(), True)
        self.assertTrue(same([wire.under_way(role) for role in ROLES], [[], []]))
        for role in ROLES:
            self.assertTrue(same((wire.go(role), wire.come(role), wire.run()), (0, [], [])))
            self.assertTrue(same((wire.go(role, many=5), wire.come(role, many=5)), (0, [])))
        self.assertTrue(same(wire.break_off(), ([5], [3, 9])))
        self.assertEqual(wire.deeds(), 20)

    def test_with_none(self):
        wire = Wire()
        self.assertTrue(same((wire.break_off(), wire.break_off(), wire.is_broken()), (([], []), ([], []), True)))

    def test_a_letter_under_way_is_not_begun(self):
        wire = Wire()
        wire.send("caller", 3, "bytes", [1, 2], sizes=[1])
        wire.go("caller", many=15)
        self.assertEqual(wire.break_off(), ([], []))

    def test_a_letter_whose_talk_has_had_its_end_is_not_begun(self):
        wire = self.broken_wire()
        wire.close("caller", 3)
        wire.run()
        wire.send("caller", 4, "bytes", [1, 2])
        wire.go("caller", many=8)
        wire.come("keeper")
        self.assertEqual(wire.break_off(), ([], [4]))

    def test_all_else_as_ever(self):
        wire = self.broken_wire()
        wire.break_off()
        wire.send("caller", 7, "bytes", [1])
        wire.bell("keeper", 7, [1])
        wire.close("caller", 7, code=6)
        self.assertEqual((wire.state("caller", 7), wire.codes_of("caller", 7)), ("closing", (6, None)))
        self.assertEqual(refusal_of(lambda: wire.send("caller", 7, "bytes", [1])), (Ended, 7))
        self.assertEqual(refusal_of(lambda: wire.bend("keeper", 0, 1)), (NoByte, 0))
        self.assertEqual(refusal_of(lambda: wire.bell("keeper", 1, [256])), (BadSlip, "data"))

    def test_nothing_is_pulled(self):
        # What was to go is still there where breaking it off is taken back.
        wire = self.broken_wire()
        wanted = rest_of(wire)
        wire.break_off()
        for role in ROLES:
            wire.go(role)
            wire.come(role)
        for _ in range(5):
            wire.back()
        self.assertTrue(same(rest_of(wire), wanted))

    def test_taken_back(self):
        wire = self.broken_wire()
        held = standing(wire), rest_of(wire)
        wire.break_off()
        wire.break_off()
        self.assertIs(wire.back(), True)
        self.assertIs(wire.is_broken(), True)
        self.assertIs(wire.back(), True)
        self.assertTrue(same((standing(wire), rest_of(wire)), held))


class Back(unittest.TestCase):
    def test_behind_each_deed(self):
        wire = Wire()
        for word, told, more, answer in worked_deeds():
            held = standing(wire), rest_of(wire)
            getattr(wire, word)(*told, **more)
            self.assertIs(wire.back(), True)
            self.assertTrue(same((standing(wire), rest_of(wire)), held), word)
            self.assertTrue(same(getattr(wire, word)(*told, **more), answer))

    def test_behind_several(self):
        wire, held = Wire(), []
        for word, told, more, _ in worked_deeds():
            held.append((standing(wire), rest_of(wire)))
            getattr(wire, word)(*told, **more)
        while held:
            self.assertIs(wire.back(), True)
            self.assertTrue(same((standing(wire), rest_of(wire)), held.pop()))
        self.assertIs(wire.back(), False)

    def test_behind_none(self):
        wire = Wire()
        self.assertTrue(same([wire.back(), wire.back(), wire.deeds()], [False, False, 0]))
        wire.bell("caller", 3)
        self.assertTrue(same([wire.back(), wire.back(), wire.deeds()], [True, False, 0]))

    def test_a_deed_of_which_nothing_came_is_one(self):
        wire = Wire()
        for deed in (lambda: wire.go("caller"), lambda: wire.come("keeper"), lambda: wire.run(),
                     lambda: wire.go("caller", many=0), lambda: wire.come("caller", many=0)):
            wire.bell("caller", 3)
            deed()
            self.assertIs(wire.back(), True)
            self.assertEqual(wire.deeds(), 1)
            self.assertIs(wire.back(), True)

    def test_behind_refused_ones(self):
        wire = Wire()
        wire.close("caller", 3)
        wire.bell("caller", 4)
        for _ in range(3):
            self.assertEqual(refusal_of(lambda: wire.send("caller", 3, "bytes", [])), (Ended, 3))
            self.assertEqual(refusal_of(lambda: wire.bend("caller", 3, 7)), (NoByte, 3))
        self.assertEqual(wire.deeds(), 2)
        self.assertIs(wire.back(), True)
        self.assertEqual((wire.deeds(), wire.state("caller", 3), wire.go("caller")), (1, "closing", 9))

    def test_back_is_no_deed(self):
        wire = Wire()
        wire.bell("caller", 3)
        wire.bell("caller", 4)
        self.assertEqual([wire.back(), wire.back(), wire.back()], [True, True, False])

    def test_an_end_that_began_to_go_has_not_begun_any_more(self):
        for role, other in BOTH:
            wire = Wire()
            wire.close(role, 0, code=7)
            wire.go(role, many=1)
            self.assertIs(wire.back(), True)
            # So a bell is still answered in that talk, and a fault's end would still go in it.
            bent = wire.twin()
            wire.bell(other, 0, [5])
            wire.go(other)
            wire.come(role)
            wire.go(role)
            self.assertEqual(wire.come(other), [("echo", 0, [5]), ("end", 0, 7, [])])
            bent.bell(other, 1)
            bent.go(other)
            bent.bend(role, 0, 255)
            bent.come(role)
            self.assertEqual([bent.codes_of(role, talk) for talk in (0, 1)], [(10, None), (None, None)])

    def test_another_way_behind_it(self):
        wire = Wire()
        wire.send("caller", 3, "bytes", [1])
        wire.run()
        wire.back()
        wire.close("keeper", 3)
        self.assertEqual(wire.run(), [("keeper", ("letter", 3, "bytes", [1])), ("caller", ("end", 3, 1, [])),
                                      ("keeper", ("end", 3, 1, []))])
        self.assertEqual((wire.deeds(), wire.told("keeper")), (3, [("letter", 3, "bytes", [1]), ("end", 3, 1, [])]))


class AsTold(unittest.TestCase):
    def worked(self):
        wire, held = Wire(), []
        for word, told, more, _ in worked_deeds():
            held.append(standing(wire))
            getattr(wire, word)(*told, **more)
        return wire, held + [standing(wire)]

    def test_of_none_of_some_and_of_all(self):
        wire, held = self.worked()
        for many, stand in enumerate(held):
            other = wire.as_told(many)
            self.assertIs(type(other), Wire)
            self.assertIsNot(other, wire)
            self.assertTrue(same((standing(other), other.log()), (stand, [])))
            for number in range(many, 0, -1):
                self.assertIs(other.back(), True)
                self.assertTrue(same(standing(other), held[number - 1]))
            self.assertIs(other.back(), False)
            self.assertTrue(same(standing(wire), held[-1]))

    def test_of_one_too_many(self):
        wire, _ = self.worked()
        many = wire.deeds()
        for wrong in (many + 1, many + 2, 10 ** 7):
            with self.assertRaises(NoDeed) as refused:
                wire.as_told(wrong)
            self.assertTrue(same(refused.exception.many, wrong))
        wire.back()
        self.assertEqual(refusal_of(lambda: wire.as_told(many)), (NoDeed, many))
        self.assertEqual(refusal_of(lambda: Wire().as_told(1)), (NoDeed, 1))
        self.assertEqual(standing(Wire().as_told(0)), standing(Wire()))

    def test_a_wire_of_its_own(self):
        wire, held = self.worked()
        for many in range(len(held)):
            other = wire.as_told(many)
            third = wire.as_told(many)
            other.send("caller", 30, "bytes", [1])
            other.close("keeper", 29)
            other.run()
            self.assertTrue(same((standing(wire), standing(third)), (held[-1], held[many])))
        other = wire.as_told(2)
        wire.back()
        wire.bell("keeper", 30)
        self.assertTrue(same(standing(other), held[2]))

    def test_it_goes_on_as_the_first_did(self):
        wire, held = self.worked()
        for many in range(len(held)):
            other = wire.as_told(many)
            for word, told, more, answer in worked_deeds()[many:]:
                self.assertTrue(same(getattr(other, word)(*told, **more), answer))
            self.assertTrue(same(standing(other), held[-1]))

    def test_mask_most_and_every_are_the_same(self):
        wire = Wire(mask=(7, 7, 7, 7), most=2, every=1)
        wire.send("caller", 0, "bytes", [1, 2, 3])
        wire.go("caller")
        for other in (wire.as_told(0), wire.as_told(1).as_told(0), wire.twin().as_told(0)):
            other.send("caller", 0, "bytes", [1, 2, 3])
            other.go("caller")
            self.assertEqual(other.under_way("keeper"), wire.under_way("keeper"))
            self.assertEqual([event[:2] for event in other.come("keeper")], [("fault", 15)])

    def test_twin(self):
        wire, held = self.worked()
        twin = wire.twin()
        self.assertIs(type(twin), Wire)
        self.assertTrue(same((standing(twin), twin.log()), (held[-1], [])))
        for stand in held[-2::-1]:
            twin.back()
            self.assertTrue(same(standing(twin), stand))
        self.assertTrue(same(standing(wire), held[-1]))
        self.assertEqual(standing(Wire().twin()), standing(Wire()))

    def test_a_wire_made_anew_by_the_same_deeds_tells_the_same(self):
        one, held = self.worked()
        other, again = self.worked()
        self.assertTrue(same(held, again))
        self.assertTrue(same(one.log(), other.log()))


class Log(unittest.TestCase):
    def test_of_each_deed(self):
        wire, words = Wire(), []
        for word, told, more, _ in worked_deeds():
            getattr(wire, word)(*told, **more)
            words += [("in", word), ("out", word)]
            self.assertTrue(same(wire.log(), words))
            self.assertIs(wire.is_open(), True)
        self.assertEqual({word for _, word in words}, set(DEEDS))

    def test_of_back(self):
        wire = Wire()
        wire.back()
        wire.bell("caller", 3)
        wire.back()
        self.assertTrue(same(wire.log(), [("in", "back"), ("out", "back"), ("in", "bell"), ("out", "bell"),
                                          ("in", "back"), ("out", "back")]))

    def test_of_refused_ones(self):
        wire = Wire()
        wire.close("caller", 3)
        deeds = [(lambda: wire.send("caller", 3, "bytes", []), "send", (Ended, 3)),
                 (lambda: wire.send("caller", 4, "byte", []), "send", (BadLetter, "word")),
                 (lambda: wire.bell("caller", 3), "bell", (Ended, 3)),
                 (lambda: wire.bell("caller", 4, [1] * 121), "bell", (BadSlip, "data")),
                 (lambda: wire.close("caller", 3), "close", (Ended, 3)),
                 (lambda: wire.close("keeper", 3, code=12), "close", (BadEnd, "code")),
                 (lambda: wire.close("keeper", 3, words=[1] * 119), "close", (BadEnd, "words")),
                 (lambda: wire.bend("keeper", 0, 5), "bend", (NoByte, 0))]
        words, held = wire.log(), (standing(wire), rest_of(wire))
        for deed, word, wanted in deeds:
            self.assertEqual(refusal_of(deed), wanted)
            words += [("in", word), ("out", word)]
            self.assertTrue(same(wire.log(), words))
            self.assertTrue(same((standing(wire), rest_of(wire)), held))
        self.assertEqual(refusal_of(lambda: wire.as_told(5)), (NoDeed, 5))
        self.assertTrue(same(wire.log(), words))

    def test_asks_are_not_in_it(self):
        wire = Wire()
        wire.bell("caller", 3)
        standing(wire)
        wire.twin()
        wire.as_told(0)
        self.assertEqual(wire.log(), [("in", "bell"), ("out", "bell")])
        twin = wire.twin()
        twin.run()
        self.assertEqual((twin.log(), len(wire.log())), ([("in", "run"), ("out", "run")], 2))


class Refused(unittest.TestCase):
    def test_as_the_post(self):
        for role, other in BOTH:
            wire = Wire()
            wire.close(role, 3)
            self.assertEqual(refusal_of(lambda: wire.send(role, 3, "word", None)), (Ended, 3))
            self.assertIsNone(refusal_of(lambda: wire.send(other, 3, "bytes", [1])))
            self.assertEqual(refusal_of(lambda: wire.send(role, 4, "word", None)), (BadLetter, "word"))
            self.assertEqual(refusal_of(lambda: wire.send(role, 4, "words", None)), (BadLetter, "data"))
            self.assertEqual(refusal_of(lambda: wire.close(role, 4, code=200, words=None)), (BadEnd, "code"))
            self.assertEqual(refusal_of(lambda: wire.close(role, 4, code=0, words=[65])), (BadEnd, "words"))
            self.assertEqual(refusal_of(lambda: wire.bell(role, 4, None)), (BadSlip, "data"))
            wire.run()
            self.assertEqual(refusal_of(lambda: wire.bell(other, 3, None)), (Ended, 3))

    def test_of_a_dead_post(self):
        for role, other in BOTH:
            wire = Wire()
            wire.bell(other, 0)
            wire.go(other)
            wire.bend(role, 0, 255)
            wire.come(role)
            for talk in range(32):
                self.assertEqual(refusal_of(lambda: wire.send(role, talk, "bytes", [])), (Ended, talk))
                self.assertEqual(refusal_of(lambda: wire.bell(role, talk)), (Ended, talk))
                self.assertEqual(refusal_of(lambda: wire.close(role, talk)), (Ended, talk))
            self.assertIsNone(refusal_of(lambda: wire.send(other, 0, "bytes", [])))
            wire.run()
            self.assertEqual(refusal_of(lambda: wire.send(other, 0, "bytes", [])), (Ended, 0))


class Handed(unittest.TestCase):
    def test_by_names(self):
        one, other = Wire(), Wire()
        one.send("caller", 3, "words", [65], sizes=[0], every=1)
        one.bell("caller", 4, [1])
        one.close("caller", 3, code=2, words=[66])
        one.go("caller", many=20)
        one.bend("keeper", 19, 7)
        one.come("keeper", many=12)
        other.send(every=1, sizes=(0,), data=(65,), word="words", talk=3, role="caller")
        other.bell(data=(1,), talk=4, role="caller")
        other.close(words=(66,), code=2, talk=3, role="caller")
        other.go(many=20, role="caller")
        other.bend(byte=7, at=19, role="keeper")
        other.come(many=12, role="keeper")
        self.assertTrue(same((standing(one), one.log()), (standing(other), other.log())))
        self.assertEqual(other.told(role="keeper"), one.told("keeper"))
        self.assertEqual(other.state(talk=3, role="caller"), "closing")
        self.assertEqual(other.codes_of(talk=3, role="caller"), (2, None))
        self.assertEqual((other.is_dead(role="caller"), other.fault(role="caller")), (False, None))
        self.assertEqual(other.under_way(role="keeper"), one.under_way("keeper"))
        self.assertEqual(standing(other.as_told(many=2)), standing(one.as_told(2)))
        for wrong in (lambda: Wire((1, 2, 3, 4)), lambda: one.go("caller", 3), lambda: one.come("caller", 3),
                      lambda: one.close("caller", 5, 1), lambda: one.send("caller", 5, "bytes", [1], [1])):
            self.assertRaises(TypeError, wrong)

    def test_what_is_handed_in_is_neither_changed_nor_kept(self):
        mask, data, sizes, ring, words = [5, 6, 7, 8], [1, 2, 3], [1], [9, 9], [65, 66]
        wire = Wire(mask=mask)
        wire.send("caller", 3, "bytes", data, sizes=sizes)
        wire.bell("caller", 3, ring)
        wire.close("caller", 4, words=words)
        self.assertTrue(same((mask, data, sizes, ring, words), ([5, 6, 7, 8], [1, 2, 3], [1], [9, 9], [65, 66])))
        wanted = rest_of(wire)
        for row in (mask, data, sizes, ring, words):
            row[:] = [77] * 5
        self.assertTrue(same(rest_of(wire), wanted))
        self.assertEqual(wanted[0][:3], [("keeper", ("bell", 3, [9, 9])), ("keeper", ("end", 4, 1, [65, 66])),
                                         ("keeper", ("letter", 3, "bytes", [1, 2, 3]))])

    def test_told_lists_that_are_changed_change_nothing(self):
        wire = Wire(every=1)
        wire.send("caller", 3, "bytes", [1, 2])
        wire.send("caller", 9, "bytes", [1, 2])
        wire.bell("caller", 3, [5])
        wire.go("caller", many=8 + 8)
        events = wire.come("keeper")
        held = standing(wire), rest_of(wire), wire.log()
        events[0][2].append(7)
        events.clear()
        for role in ROLES:
            wire.told(role).append(7)
            for event in wire.told(role):
                event[-1].append(7)
            wire.under_way(role).append(7)
        wire.log().clear()
        self.assertTrue(same((standing(wire), rest_of(wire), wire.log()), held))
        for role, event in wire.run():
            event[-1].append(7)
        self.assertEqual(wire.told("keeper"), [("bell", 3, [5]), ("letter", 3, "bytes", [1, 2]),
                                               ("letter", 9, "bytes", [1, 2])])
        begun = wire.break_off()
        begun[0].append(7)
        self.assertEqual(wire.break_off(), ([], []))

    def test_no_two_told_lists_are_one_and_the_same(self):
        wire = Wire()
        for talk in range(3):
            wire.send("caller", talk, "bytes", [])
            wire.bell("keeper", talk)
        run = wire.run()
        lists = [run, wire.told("caller"), wire.told("caller"), wire.told("keeper"), wire.under_way("caller"),
                 wire.under_way("keeper"), wire.under_way("keeper"), wire.log(), wire.log(), wire.run(), wire.run(),
                 wire.come("caller"), wire.come("keeper"), *wire.break_off(), *wire.break_off()]
        lists += [event[-1] for _, event in run]
        lists += [event[-1] for row in (wire.told("caller"), wire.told("caller"), wire.told("keeper"),
                                        wire.twin().told("keeper")) for event in row]
        self.assertEqual(len({id(row) for row in lists}), len(lists))
        self.assertEqual({type(row) for row in lists}, {list})

    def test_what_was_told_may_be_handed_in_again(self):
        wire = Wire()
        wire.send("caller", 3, "words", [8364] * 300)
        (_, (_, talk, word, data)), = wire.run()
        wire.send("keeper", talk, word, data)
        self.assertEqual(wire.run(), [("caller", ("letter", 3, "words", [8364] * 300))])

    def test_asking_changes_nothing(self):
        wire = Wire()
        for word, told, more, answer in worked_deeds():
            for _ in range(3):
                before = copy.deepcopy(standing(wire))
                self.assertTrue(same(standing(wire), before))
            self.assertTrue(same(getattr(wire, word)(*told, **more), answer))


if __name__ == "__main__":
    unittest.main()

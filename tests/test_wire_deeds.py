"""Points [10], [11] and [1]: posts and wires beside the plain ones, by many deeds drawn by chance."""

import random
import unittest

from draws import any_codes, bent, pieces_of
from plain_post import PlainPost, PlainWire, Refused
from slipwire.errors import BadEnd, BadLetter, BadSlip, Ended, NoByte
from slipwire.post import Post
from slipwire.wire import Wire
from things import same

ROLES = ("caller", "keeper")
SIGNS = [65, 128, 2048, 8364, 65_535]


def any_talk(draw):
    return draw.choice([0, 0, 1, 1, 2, 31])


def any_send(draw):
    word = draw.choice(["words", "words", "bytes", "bytes", "bytes", "word"])
    data = [draw.choice(SIGNS if word == "words" else [0, 5, 255]) for _ in range(draw.randrange(6))]
    if draw.random() < 0.05:
        data = draw.choice([None, "x", [256, -1], [True], [55_296]])
    more = {}
    if draw.random() < 0.4:
        more["sizes"] = [draw.choice([0, 1, 2, 9]) for _ in range(draw.randrange(4))]
    if draw.random() < 0.4:
        more["every"] = draw.choice([None, 1, 2, 100])
    return "send", (any_talk(draw), word, data), more


def any_bell(draw):
    data = draw.choice([[], [7], [1, 2, 3], [9] * 120, [9] * 121, [256]])
    return "bell", draw.choice([(any_talk(draw), data), (any_talk(draw),)]), {}


def any_close(draw):
    more = {}
    if draw.random() < 0.6:
        more["code"] = draw.choice([0, 1, 9, 17, 199, 10, 16, 200, None])
    if draw.random() < 0.3:
        more["words"] = draw.choice([[], [65], [8364] * 39, [8364] * 40, "x"])
    return "close", (any_talk(draw),), more


def any_post_deed(draw):
    return draw.choice([any_send, any_send, any_bell, any_close])(draw)


def any_deed(draw, bends):
    """A deed of a wire, with what is handed in."""
    role, pick = draw.choice(ROLES), draw.random()
    if pick < 0.4:
        word, told, more = any_post_deed(draw)
        return word, (role, *told), more
    if pick < 0.85:
        more = draw.choice([{}, {"many": draw.choice([0, 1, 2, 3, 7, 20])}])
        return draw.choice(["go", "come"]), (role,), more
    if pick < 0.9:
        return "run", (), {}
    if pick < 0.94:
        return "back", (), {}
    if bends and pick < 0.985:
        return "bend", (role, draw.randrange(30), draw.choice([0, 1, 40, 64, 128, 255])), {}
    return ("break_off", (), {}) if bends and draw.random() < 0.3 else ("run", (), {})


def field_of(refusal):
    return refusal.part if hasattr(refusal, "part") else refusal.talk if hasattr(refusal, "talk") else refusal.at


def answer_of(deed, *told, **more):
    try:
        return deed(*told, **more)
    except Refused as refusal:
        return "refused", *refusal.args
    except (Ended, BadLetter, BadSlip, BadEnd, NoByte) as refusal:
        return "refused", type(refusal).__name__, field_of(refusal)


def asked_of_post(post):
    return [post.is_dead(), post.fault(), post.waits(), post.went(),
            [(post.state(talk), post.codes_of(talk)) for talk in range(32)]]


def asked_of_wire(wire):
    rows = [wire.is_broken(), wire.deeds()]
    for role in ROLES:
        rows += [wire.told(role), [wire.state(role, talk) for talk in range(32)], wire.under_way(role),
                 wire.is_dead(role), wire.fault(role), [wire.codes_of(role, talk) for talk in range(32)]]
    return rows


def exchanged(rows):
    """Rows of asked_of_wire with caller and keeper exchanged."""
    half = (len(rows) - 2) // 2
    return rows[:2] + rows[2 + half:] + rows[2:2 + half]


class Posts(unittest.TestCase):
    def test_beside_the_plain_post(self):
        draw = random.Random(40)
        seen = {}
        for number in range(700):
            role, made = ROLES[number % 2], {"most": draw.choice([3, 30, 4096]), "every": draw.choice([1, 2, 100])}
            made["mask"] = draw.choice([(1, 2, 3, 4), (250, 100, 0, 9)])
            post, plain = Post(role, **made), PlainPost(role, **made)
            codes = any_codes(draw, role == "keeper")
            for piece in pieces_of(draw, bent(draw, codes) if number % 3 == 0 else codes):
                word, told, more = any_post_deed(draw)
                answer = answer_of(getattr(post, word), *told, **more)
                self.assertTrue(same(answer, answer_of(getattr(plain, word), *told, **more)), (word, told, more))
                many = draw.choice([None, 0, 1, 3, 9])
                self.assertTrue(same(post.pull(many=many), plain.pull(many=many)))
                events = post.put(piece)
                self.assertTrue(same(events, plain.put(piece)))
                self.assertTrue(same(asked_of_post(post), asked_of_post(plain)))
                for key in [answer and answer[1]] + [event[0] for event in events]:
                    seen[key] = seen.get(key, 0) + 1
            self.assertTrue(same(post.pull(), plain.pull()))
            self.assertTrue(same(asked_of_post(post), asked_of_post(plain)))
        self.assertEqual(set(seen), {None, "Ended", "BadLetter", "BadSlip", "BadEnd", "letter", "bell", "echo", "end",
                                     "fault"})
        self.assertGreater(min(seen.values()), 40, seen)


class Wires(unittest.TestCase):
    def assert_as_plain(self, wire, plain):
        self.assertTrue(same(asked_of_wire(wire), plain.asked()), plain.done)
        self.assertTrue(same(wire.log(), plain.entries))
        self.assertTrue(same((wire.is_open(), repr(wire)), (True, f"Wire({len(plain.done)})")))

    def one_wire(self, draw, seen):
        made = {"most": draw.choice([4, 30, 4096]), "every": draw.choice([1, 2, 100])}
        bends = draw.random() < 0.5
        wire, plain = Wire(**made), PlainWire(**made)
        for _ in range(draw.randrange(25)):
            word, told, more = any_deed(draw, bends)
            answer = answer_of(getattr(wire, word), *told, **more)
            self.assertTrue(same(answer, answer_of(plain.do, word, *told, **more)), (plain.done, word, told, more))
            self.assert_as_plain(wire, plain)
            for key in (word, answer[1] if type(answer) is tuple and answer[0] == "refused" else None):
                seen[key] = seen.get(key, 0) + 1
        return wire, plain

    def test_beside_the_plain_wire(self):
        draw, seen = random.Random(41), {}
        for _ in range(250):
            wire, plain = self.one_wire(draw, seen)
            many = draw.randrange(wire.deeds() + 1)
            self.assertTrue(same(asked_of_wire(wire.as_told(many)), plain.asked(many)))
            while plain.done:
                self.assertIs(plain.do("back"), True)
                self.assertIs(wire.back(), True)
                self.assert_as_plain(wire, plain)
            self.assertIs(wire.back(), False)
        self.assertEqual(set(seen), {None, "send", "bell", "close", "go", "come", "run", "bend", "break_off", "back",
                                     "Ended", "BadLetter", "BadSlip", "BadEnd", "NoByte"})

    def test_ends_cross_ends(self):
        draw, crossed = random.Random(42), 0
        for _ in range(400):
            wire, closed = Wire(every=draw.choice([1, 3])), {}
            for _ in range(draw.randrange(40)):
                word, told, more = any_deed(draw, False)
                # A run settles all talks, so that few ends would cross: another end instead.
                if word in ("run", "back"):
                    word, told, more = "close", (draw.choice(ROLES), any_talk(draw)), {"code": draw.randrange(10)}
                if answer_of(getattr(wire, word), *told, **more) is None and word == "close":
                    closed[told[:2]] = more.get("code", 1)
            crossed += len({talk for _, talk in closed}) < len(closed)
            wire.run()
            self.assertEqual([wire.is_dead(role) for role in ROLES], [False, False])
            for (role, talk), code in closed.items():
                self.assertEqual([wire.state(one, talk) for one in ROLES], ["ended"] * 2)
                self.assertEqual(wire.codes_of(role, talk)[0], code)
            for talk in range(32):
                self.assertEqual(wire.codes_of("caller", talk), wire.codes_of("keeper", talk)[::-1])
                self.assertEqual(wire.state("caller", talk), wire.state("keeper", talk))
                self.assertNotEqual(wire.state("caller", talk), "closing")
        self.assertGreater(crossed, 100)

    def test_letters_come_whole_and_in_order(self):
        draw = random.Random(43)
        for _ in range(200):
            wire, sent, rung = Wire(), {}, {role: [] for role in ROLES}
            for _ in range(draw.randrange(30)):
                word, told, more = any_deed(draw, False)
                if word in ("back", "close"):
                    continue
                answer = answer_of(getattr(wire, word), *told, **more)
                if word == "send" and answer is None:
                    sent.setdefault((told[0], told[1]), []).append(("letter", *told[1:]))
                elif word == "bell" and answer is None:
                    rung[told[0]].append((told[1], (told[2:] or ([],))[0]))
            wire.run()
            for role, other in (ROLES, ROLES[::-1]):
                letters = [event for event in wire.told(other) if event[0] == "letter"]
                for talk in range(32):
                    self.assertEqual([event for event in letters if event[1] == talk], sent.get((role, talk), []))
                # Each bell is told once, and answered by one echo, in order.
                self.assertEqual([event for event in wire.told(other) if event[0] == "bell"],
                                 [("bell", talk, data) for talk, data in rung[role]])
                self.assertEqual([event for event in wire.told(role) if event[0] == "echo"],
                                 [("echo", talk, data) for talk, data in rung[role]])

    def test_the_same_however_it_is_cut(self):
        draw = random.Random(44)
        for _ in range(150):
            deeds = [any_post_deed(draw) for _ in range(6)]
            rows = []
            for every, many in ((1, 1), (2, 5), (100, None)):
                wire = Wire(every=every)
                for word, told, more in deeds:
                    if word == "send":
                        more = {**more, "every": every}
                    answer_of(getattr(wire, word), "caller", *told, **more)
                while wire.go("caller", many=many):
                    wire.come("keeper", many=many)
                wire.run()
                rows.append([sorted(event for event in wire.told("keeper") if event[1] == talk and event[0] != "bell")
                             for talk in range(32)])
            self.assertTrue(same(rows[0], rows[1]) and same(rows[0], rows[2]))

    def test_a_caller_and_a_keeper_exchanged(self):
        draw, other_role = random.Random(45), dict(zip(ROLES, ROLES[::-1]))
        for _ in range(150):
            one, other = Wire(every=2), Wire(every=2)
            for _ in range(draw.randrange(20)):
                word, told, more = any_deed(draw, False)
                # Masks make a caller's slips longer, so only whole rows of bytes go and come alike.
                more = {} if word in ("go", "come") else more
                if word in ("run", "back"):
                    continue
                there = (other_role[told[0]], *told[1:])
                answer = answer_of(getattr(other, word), *there, **more)
                if word != "go":
                    self.assertTrue(same(answer_of(getattr(one, word), *told, **more), answer))
                else:
                    self.assertIs(one.go(told[0]) > 0, answer > 0)
            rows = [asked_of_wire(wire) for wire in (one, other)]
            for row in rows:
                row[4] = row[10] = None
            self.assertTrue(same(exchanged(rows[0]), rows[1]))


if __name__ == "__main__":
    unittest.main()

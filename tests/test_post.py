"""Point [10]: a post, by worked deeds."""

import copy
import itertools
import unittest

from plain import as_utf8, slip_row
from slipwire.errors import BadEnd, BadLetter, BadSlip, Ended
from slipwire.masks import mask_of
from slipwire.post import Post
from slipwire.slips import slip_at
from things import same, things

MORE, WORDS, BYTES, END, BELL, ECHO = 0, 1, 2, 8, 9, 10
ROLES = ("caller", "keeper")
FAULTS = range(10, 17)


def slips_in(codes, role):
    """The slips (kind, talk, data, last) of what a post of that role pulled."""
    rows, at = [], 0
    while at < len(codes):
        slip, at = slip_at(codes, at, masks=role == "caller")
        rows.append((slip.kind, slip.talk, list(slip.data), slip.last))
    return rows


def gone(post, role="keeper", **more):
    return slips_in(post.pull(**more), role)


def put(post, *slips, role="keeper"):
    """What a post of that role tells of slips (kind, talk, data, last), the last ones of these left out or not."""
    codes = []
    for kind, talk, *rest in slips:
        data, last = (rest + [(), True][len(rest):])
        codes += slip_row(kind, talk, data, last=last, mask=(9, 8, 7, 6) if role == "keeper" else None)
    return post.put(codes)


def end_data(code):
    return [0, code] if code else []


def standing(post):
    """All that a post tells when asked."""
    return (post.is_dead(), post.fault(), post.waits(), post.went(), repr(post),
            [post.state(talk) for talk in range(32)], [post.codes_of(talk) for talk in range(32)])


def refusal_of(deed):
    try:
        deed()
    except (Ended, BadLetter, BadSlip, BadEnd) as refusal:
        return type(refusal), refusal.talk if isinstance(refusal, Ended) else refusal.part
    return None


class Sent(unittest.TestCase):
    def test_a_new_post(self):
        for role in ROLES:
            post = Post(role)
            wanted = (False, None, 0, 0, f"Post({role})", ["open"] * 32, [(None, None)] * 32)
            self.assertTrue(same(standing(post), wanted))
            for many in (None, 0, 1, 10 ** 7):
                self.assertTrue(same(post.pull(many=many), []))
            self.assertTrue(same(post.put([]), []))
            self.assertIs(bool(post), True)

    def test_a_letter_of_a_keeper_and_of_a_caller(self):
        post = Post("keeper")
        self.assertIsNone(post.send(3, "words", [72, 105]))
        self.assertEqual((post.waits(), post.went()), (1, 0))
        self.assertTrue(same(post.pull(), [33, 3, 2, 72, 105]))
        self.assertEqual((post.waits(), post.went()), (0, 1))
        post = Post("caller")
        post.send(3, "words", [72, 105])
        self.assertTrue(same(post.pull(), [49, 3, 2, 1, 2, 3, 4, 73, 107]))

    def test_masks_of_a_caller_by_number(self):
        for mask in ((1, 2, 3, 4), [250, 251, 252, 253], (0, 0, 0, 0)):
            post = Post("caller", mask=mask)
            codes = []
            for number in range(70):
                post.send(number % 32, "bytes", [number])
                post.bell(number % 32, [0, number])
                codes += post.pull(many=5)
            codes += post.pull()
            at, numbers = 0, itertools.count()
            while at < len(codes):
                slip, at = slip_at(codes, at, masks=True)
                self.assertEqual(slip.mask, mask_of(mask, next(numbers)))
            self.assertEqual(next(numbers), 140)
            self.assertEqual(post.went(), 140)

    def test_a_keepers_slips_are_not_masked(self):
        post = Post("keeper", mask=(9, 9, 9, 9))
        post.send(0, "bytes", [5, 6])
        post.bell(1, [7])
        self.assertEqual(post.pull(), [41, 1, 1, 7, 34, 0, 2, 5, 6])

    def test_every_and_sizes(self):
        data = list(range(7))
        for made, told, pieces in (({}, {}, [7]), ({"every": 3}, {}, [3, 3, 1]),
                                   ({"every": 3}, {"every": None}, [3, 3, 1]),
                                   ({"every": 3}, {"every": 4}, [4, 3]), ({}, {"every": 2}, [2, 2, 2, 1]),
                                   ({"every": 3}, {"sizes": [1, 0]}, [1, 0, 3, 3]), ({}, {"sizes": (1, 1)}, [1, 1, 5]),
                                   ({"every": 9}, {"sizes": [2], "every": 1}, [2, 1, 1, 1, 1, 1])):
            post = Post("keeper", **made)
            post.send(4, "bytes", data, **told)
            self.assertEqual(post.waits(), len(pieces))
            self.assertEqual([len(slip[2]) for slip in gone(post)], pieces)

    def test_every_left_out_is_100(self):
        post = Post("keeper")
        post.send(4, "bytes", [1] * 250)
        self.assertEqual([len(slip[2]) for slip in gone(post)], [100, 100, 50])

    def test_letters_of_a_talk_go_in_order(self):
        post = Post("keeper", every=1)
        post.send(4, "bytes", [1, 2])
        post.send(4, "words", [65])
        post.send(4, "bytes", [])
        self.assertEqual(gone(post), [(BYTES, 4, [1], False), (MORE, 4, [2], True), (WORDS, 4, [65], True),
                                      (BYTES, 4, [], True)])

    def test_talks_by_turns(self):
        post = Post("keeper", every=1)
        for talk, many in ((5, 3), (31, 1), (2, 4), (0, 2)):
            post.send(talk, "bytes", [talk] * many)
        self.assertEqual([slip[1] for slip in gone(post)], [0, 2, 5, 31, 0, 2, 5, 2, 5, 2])

    def test_the_turn_goes_on_above_the_talk_that_went_last(self):
        post = Post("keeper", every=1)
        post.send(5, "bytes", [1])
        self.assertEqual([slip[1] for slip in gone(post)], [5])
        for talk in (2, 5, 9):
            post.send(talk, "bytes", [1])
        self.assertEqual([slip[1] for slip in gone(post)], [9, 2, 5])
        post.send(5, "bytes", [1])
        self.assertEqual([slip[1] for slip in gone(post)], [5])
        post.send(31, "bytes", [1])
        post.send(4, "bytes", [1])
        post.send(5, "bytes", [1])
        self.assertEqual([slip[1] for slip in gone(post)], [31, 4, 5])

    def test_a_talk_joins_between(self):
        post = Post("keeper", every=1)
        post.send(4, "bytes", [1] * 3)
        post.send(8, "bytes", [1] * 3)
        self.assertEqual([slip[1] for slip in gone(post, many=8)], [4, 8])
        post.send(6, "bytes", [1])
        post.send(9, "bytes", [1])
        self.assertEqual([slip[1] for slip in gone(post)], [9, 4, 6, 8, 4, 8])

    def test_controls_go_ahead_of_letters(self):
        post = Post("keeper", every=1)
        post.send(4, "bytes", [1, 2])
        post.bell(9, [7])
        post.bell(4)
        post.bell(0, [1, 2])
        self.assertEqual(post.waits(), 5)
        self.assertEqual(gone(post), [(BELL, 9, [7], True), (BELL, 4, [], True), (BELL, 0, [1, 2], True),
                                      (BYTES, 4, [1], False), (MORE, 4, [2], True)])

    def test_controls_do_not_change_the_turn(self):
        post = Post("keeper", every=1)
        for talk in (4, 6, 8):
            post.send(talk, "bytes", [1, 2])
        self.assertEqual([slip[1] for slip in gone(post, many=4)], [4])
        post.bell(31)
        post.bell(7)
        self.assertEqual([slip[1] for slip in gone(post)], [31, 7, 6, 8, 4, 6, 8])

    def test_controls_never_go_within_a_slip(self):
        for many in range(1, 8):
            post = Post("keeper", every=4)
            post.send(4, "bytes", [1] * 8)
            first = post.pull(many=many)
            self.assertEqual((post.waits(), post.went()), (1, 1))
            post.bell(9, [7])
            self.assertEqual((post.waits(), post.went()), (2, 1))
            self.assertEqual([slip[:2] for slip in slips_in(first + post.pull(), "keeper")],
                             [(BYTES, 4), (BELL, 9), (MORE, 4)])

    def test_a_slip_is_settled_with_its_first_byte(self):
        post = Post("keeper", every=4)
        post.send(4, "bytes", [1] * 8)
        # One whole slip, but no byte of the next one: a bell still goes ahead of that.
        self.assertEqual(len(post.pull(many=7)), 7)
        post.bell(9)
        self.assertEqual([slip[:2] for slip in gone(post)], [(BELL, 9), (MORE, 4)])
        post.send(5, "bytes", [1])
        self.assertEqual(post.pull(many=0), [])
        self.assertEqual((post.waits(), post.went()), (1, 3))
        post.send(3, "bytes", [1])
        post.bell(9)
        self.assertEqual([slip[:2] for slip in gone(post)], [(BELL, 9), (BYTES, 5), (BYTES, 3)])

    def test_pieces_of_any_many(self):
        for role in ROLES:
            first = Post(role, every=3)
            for talk, word in itertools.product((3, 0, 17), ("words", "bytes")):
                first.send(talk, word, [65, 66, 200, 7])
            first.bell(3, [5] * 120)
            first.close(0, words=[8364])
            whole = copy.deepcopy(first).pull()
            for many in [1, 2, 3, 5, 7, 50, len(whole) - 1, len(whole), len(whole) + 1, 10 ** 7]:
                post, codes = copy.deepcopy(first), []
                while piece := post.pull(many=many):
                    self.assertLessEqual(len(piece), many)
                    self.assertTrue(len(piece) == many or len(codes) + len(piece) == len(whole))
                    codes += piece
                    self.assertTrue(same(post.pull(many=0), []))
                self.assertEqual(codes, whole)
                self.assertEqual((post.waits(), post.went(), post.pull()), (0, first.waits(), []))

    def test_a_great_letter(self):
        data = [place % 256 for place in range(3000)]
        post = Post("caller", every=70_000)
        post.send(0, "bytes", data)
        post.send(1, "bytes", data, every=1)
        other = Post("keeper")
        self.assertEqual(other.put(post.pull()), [("letter", 0, "bytes", data), ("letter", 1, "bytes", data)])
        self.assertEqual(post.went(), 3001)


class Closed(unittest.TestCase):
    def test_each_code(self):
        for code in (*range(10), *range(17, 200)):
            post = Post("keeper")
            self.assertIsNone(post.close(3, code=code))
            self.assertTrue(same((post.codes_of(3), post.state(3)), ((code, None), "closing")))
            self.assertTrue(same(gone(post), [(END, 3, end_data(code), True)]))
            self.assertTrue(same((post.codes_of(3), post.state(3)), ((code, None), "closing")))

    def test_what_is_left_out(self):
        post = Post("keeper")
        post.close(3)
        self.assertEqual(post.pull(), [40, 3, 2, 0, 1])

    def test_words(self):
        for words in ([65], [8364, 128], [65] * 118, [8364] * 39, [8364] * 39 + [65], [2047] * 59):
            for code in (1, 199):
                post = Post("keeper")
                post.close(3, code=code, words=words)
                self.assertEqual(gone(post), [(END, 3, [0, code] + as_utf8(words), True)])

    def test_the_end_goes_behind_all_slips_of_its_talk(self):
        post = Post("keeper", every=1)
        post.send(4, "bytes", [1, 2])
        post.send(4, "bytes", [3])
        post.close(4, code=0)
        post.send(6, "bytes", [1])
        post.bell(6)
        self.assertEqual([slip[:2] for slip in gone(post)],
                         [(BELL, 6), (BYTES, 4), (BYTES, 6), (MORE, 4), (BYTES, 4), (END, 4)])

    def test_an_end_goes_by_turns_like_other_slips(self):
        post = Post("keeper", every=1)
        post.close(6)
        post.send(2, "bytes", [1, 2])
        post.send(9, "bytes", [1])
        self.assertEqual([slip[:2] for slip in gone(post)], [(BYTES, 2), (END, 6), (BYTES, 9), (MORE, 2)])

    def test_a_bell_goes_ahead_of_the_end(self):
        post = Post("keeper")
        post.bell(3, [1])
        post.close(3)
        self.assertEqual([slip[:2] for slip in gone(post)], [(BELL, 3), (END, 3)])


class Heeded(unittest.TestCase):
    def test_letters_and_echoes_bring_nothing(self):
        for role in ROLES:
            post = Post(role)
            told = put(post, (WORDS, 3, [72], False), (ECHO, 3, [1]), (MORE, 3, [73]), (BYTES, 4), role=role)
            self.assertTrue(same(told, [("echo", 3, [1]), ("letter", 3, "words", [72, 73]),
                                        ("letter", 4, "bytes", [])]))
            self.assertEqual((post.waits(), post.pull()), (0, []))

    def test_a_caller_reads_slips_that_are_not_masked_and_a_keeper_masked_ones(self):
        self.assertEqual(Post("caller").put([41, 0, 0]), [("bell", 0, [])])
        self.assertEqual(Post("keeper").put([57, 0, 0, 1, 2, 3, 4]), [("bell", 0, [])])
        self.assertEqual(Post("keeper").put([41, 0, 0]), [("fault", 10, 0)])
        self.assertEqual(Post("caller").put([57, 0, 0]), [("fault", 10, 0)])

    def test_most(self):
        post = Post("keeper", most=3)
        self.assertEqual(put(post, (BYTES, 3, [1, 2, 3])), [("letter", 3, "bytes", [1, 2, 3])])
        self.assertEqual(put(post, (BYTES, 3, [1, 2, 3, 4])), [("fault", 15, 12)])
        post = Post("keeper")
        self.assertEqual(put(post, (BYTES, 3, [1] * 4096)), [("letter", 3, "bytes", [1] * 4096)])
        self.assertEqual([event[:2] for event in put(post, (BYTES, 3, [1] * 4097))], [("fault", 15)])

    def test_each_bell_is_answered_by_one_echo_in_order(self):
        for role in ROLES:
            post = Post(role, every=1)
            post.send(0, "bytes", [1, 2])
            post.bell(5, [9])
            self.assertEqual(put(post, (BELL, 3, [1]), (BELL, 0), (BELL, 31, [7] * 120), role=role),
                             [("bell", 3, [1]), ("bell", 0, []), ("bell", 31, [7] * 120)])
            self.assertEqual(post.waits(), 6)
            self.assertEqual(gone(post, role), [(BELL, 5, [9], True), (ECHO, 3, [1], True), (ECHO, 0, [], True),
                                                (ECHO, 31, [7] * 120, True), (BYTES, 0, [1], False),
                                                (MORE, 0, [2], True)])

    def test_an_echo_goes_between_two_slips(self):
        for many in range(1, 7):
            post = Post("keeper", every=3)
            post.send(0, "bytes", [1] * 6)
            first = post.pull(many=many)
            put(post, (BELL, 3))
            self.assertEqual([slip[:2] for slip in slips_in(first + post.pull(), "keeper")],
                             [(BYTES, 0), (ECHO, 3), (MORE, 0)])

    def test_an_echo_in_a_closing_talk(self):
        post = Post("keeper", every=1)
        post.send(3, "bytes", [1])
        post.close(3)
        put(post, (BELL, 3, [5]))
        self.assertEqual([slip[:2] for slip in gone(post)], [(ECHO, 3), (BYTES, 3), (END, 3)])

    def test_no_echo_where_the_own_end_has_begun_to_go(self):
        for many in range(6):
            post = Post("keeper")
            post.close(3)
            first = post.pull(many=many)
            self.assertEqual(put(post, (BELL, 3, [5]), (BELL, 4)), [("bell", 3, [5]), ("bell", 4, [])])
            kinds = [slip[:2] for slip in slips_in(first + post.pull(), "keeper")]
            self.assertEqual(kinds, [(END, 3), (ECHO, 4)] if many else [(ECHO, 3), (ECHO, 4), (END, 3)])

    def test_an_end_in_an_open_talk(self):
        for role, code, words in itertools.product(ROLES, (0, 1, 9, 17, 199), ([], [72, 8364])):
            words = words if code else []
            post = Post(role, every=1)
            post.send(3, "bytes", [1, 2, 3])
            post.send(2, "bytes", [1, 2])
            post.bell(3, [5])
            self.assertTrue(same(put(post, (END, 3, end_data(code) + as_utf8(words)), role=role),
                                 [("end", 3, code, words)]))
            self.assertTrue(same((post.state(3), post.codes_of(3)), ("ended", (code, code))))
            self.assertEqual((post.waits(), post.is_dead(), post.fault()), (4, False, None))
            self.assertEqual(gone(post, role), [(BELL, 3, [5], True), (END, 3, end_data(code), True),
                                                (BYTES, 2, [1], False), (MORE, 2, [2], True)])
            self.assertTrue(same((post.state(3), post.codes_of(3), post.state(2)), ("ended", (code, code), "open")))

    def test_an_end_in_an_open_talk_while_a_slip_of_it_goes(self):
        for many in range(1, 5):
            post = Post("keeper", every=1)
            post.send(3, "bytes", [1, 2, 3])
            first = post.pull(many=many)
            put(post, (END, 3))
            self.assertEqual(slips_in(first + post.pull(), "keeper"), [(BYTES, 3, [1], False), (END, 3, [], True)])

    def test_an_end_in_a_closing_talk(self):
        post = Post("keeper", every=1)
        post.send(3, "bytes", [1, 2])
        post.send(5, "bytes", [1])
        post.close(3, code=7, words=[65])
        post.bell(9)
        put(post, (BELL, 3), (END, 3, [0, 8]))
        self.assertTrue(same((post.state(3), post.codes_of(3), post.waits()), ("ended", (7, 8), 4)))
        # Its end stays where it is: it is no control.
        self.assertEqual(gone(post), [(BELL, 9, [], True), (ECHO, 3, [], True), (END, 3, [0, 7, 65], True),
                                      (BYTES, 5, [1], True)])

    def test_an_end_in_a_closing_talk_whose_end_has_begun_to_go(self):
        for many in range(1, 6):
            post = Post("keeper")
            post.close(3, code=7)
            first = post.pull(many=many)
            put(post, (END, 3))
            self.assertTrue(same((post.state(3), post.codes_of(3), post.waits()), ("ended", (7, 0), 0)))
            self.assertEqual(slips_in(first + post.pull(), "keeper"), [(END, 3, [0, 7], True)])

    def test_several_ends_at_once(self):
        post = Post("keeper")
        post.close(4, code=0)
        put(post, (END, 5, [0, 2]), (BELL, 3), (END, 3, [0, 3]), (END, 4, [0, 4]))
        self.assertEqual(gone(post), [(END, 5, [0, 2], True), (ECHO, 3, [], True), (END, 3, [0, 3], True),
                                      (END, 4, [], True)])
        self.assertEqual([post.codes_of(talk) for talk in (3, 4, 5)], [(3, 3), (0, 4), (2, 2)])

    def test_letters_begun_when_the_end_comes_are_never_told(self):
        post = Post("keeper")
        self.assertEqual(put(post, (WORDS, 3, [72], False), (END, 3)), [("end", 3, 0, [])])
        self.assertEqual([event[:2] for event in put(post, (MORE, 3))], [("fault", 13)])

    def test_all_talks_may_be_ended(self):
        post = Post("keeper")
        for talk in range(0, 32, 2):
            post.close(talk)
        put(post, *[(END, talk, [0, 5]) for talk in range(32)])
        self.assertEqual([post.state(talk) for talk in range(32)], ["ended"] * 32)
        self.assertEqual([post.codes_of(talk) for talk in range(32)], [(1, 5), (5, 5)] * 16)
        self.assertEqual([slip[:2] for slip in gone(post)],
                         [(END, talk) for talk in [*range(1, 32, 2), *range(0, 32, 2)]])


FAULTY = {10: [64], 11: [49, 32], 12: [49, 0, 252], 13: [48, 0], 14: [49, 0, 1, 0, 0, 0, 0, 255], 15: [50, 0, 7],
          16: [56, 0, 1]}


def busy_post(own_begun=()):
    """A keeper's post with letters, bells and ends that wait, and ends that have begun to go."""
    post = Post("keeper", most=6, every=2)
    for talk in own_begun:
        post.close(talk, code=3)
        post.pull()
    for talk in (20, 21):
        post.send(talk, "bytes", [1, 2, 3])
        post.bell(talk)
    post.close(20, code=4)
    put(post, (END, 22, [0, 5]), (BELL, 21), (END, 23))
    return post


class Dead(unittest.TestCase):
    def test_by_each_fault(self):
        self.assertEqual(FAULTY.keys(), set(FAULTS))
        far = len(slip_row(END, 22, [0, 5], mask=[0] * 4)) + 7 * 2
        for code, wrong in FAULTY.items():
            for behind in ([], [0, 1, 2], [57, 0, 0, 0, 0, 0, 0]):
                post = busy_post()
                went = post.went()
                self.assertTrue(same(post.put(wrong + behind), [("fault", code, far + len(wrong) - 1)]))
                self.assertTrue(same((post.is_dead(), post.fault()), (True, (code, far + len(wrong) - 1))))
                self.assertEqual((post.waits(), post.went()), (1, went))
                # The own ends that waited are none any more; the other's are as they were told.
                self.assertTrue(same([post.codes_of(talk) for talk in (0, 20, 21, 22, 23)],
                                     [(code, None), (None, None), (None, None), (None, 5), (None, 0)]))
                self.assertEqual([post.state(talk) for talk in (0, 20, 21, 22, 23, 24)],
                                 ["closing", "open", "open", "ended", "ended", "open"])
                self.assertTrue(same(put(post, (BELL, 3)), []))
                self.assertEqual(post.waits(), 1)
                self.assertTrue(same(gone(post), [(END, 0, [0, code], True)]))
                self.assertEqual((post.waits(), post.pull(), post.codes_of(0)), (0, [], (code, None)))

    def test_by_a_fault_with_a_slip_that_has_begun_to_go(self):
        for many in range(1, 5):
            post = Post("keeper", every=1)
            post.send(0, "bytes", [1, 2])
            first = post.pull(many=many)
            post.put([64])
            self.assertEqual(slips_in(first + post.pull(), "keeper"), [(BYTES, 0, [1], False), (END, 0, [0, 10], True)])
            self.assertEqual(post.went(), 2)

    def test_the_end_goes_in_the_least_talk_in_which_the_own_one_has_not_begun(self):
        for own_begun, talk in (((0,), 1), ((1, 2), 0), ((0, 1, 2), 3), ((0, 2), 1), (range(20), 20)):
            post = busy_post(own_begun)
            post.put([64])
            self.assertEqual(gone(post), [(END, talk, [0, 10], True)])
            self.assertEqual([post.codes_of(one) for one in own_begun], [(3, None)] * len(own_begun))
            self.assertEqual(post.codes_of(talk), (10, None))

    def test_the_least_talk_may_have_had_the_others_end(self):
        post = Post("keeper")
        put(post, (END, 0, [0, 7]), (END, 1))
        self.assertEqual(post.codes_of(0), (7, 7))
        post.put([64])
        # The answer waited, and is gone: it is the fault's end that goes in talk 0.
        self.assertTrue(same([post.codes_of(0), post.codes_of(1)], [(10, 7), (None, 0)]))
        self.assertEqual(post.state(0), "ended")
        self.assertEqual(gone(post), [(END, 0, [0, 10], True)])

    def test_an_end_that_is_under_way_has_begun(self):
        for many in range(1, 5):
            post = Post("keeper")
            post.close(0, code=7)
            first = post.pull(many=many)
            post.put([64])
            self.assertEqual([post.codes_of(0), post.codes_of(1)], [(7, None), (10, None)])
            self.assertEqual(slips_in(first + post.pull(), "keeper"), [(END, 0, [0, 7], True), (END, 1, [0, 10], True)])

    def test_no_end_where_there_is_no_such_talk(self):
        post = Post("keeper")
        for talk in range(32):
            post.close(talk)
        post.pull()
        post.put([64])
        self.assertEqual((post.waits(), post.pull(), post.is_dead(), post.fault()), (0, [], True, (10, 0)))
        self.assertEqual([post.codes_of(talk) for talk in range(32)], [(1, None)] * 32)
        post = Post("keeper")
        for talk in range(32):
            post.close(talk)
        codes = post.pull(many=5 * 31)
        post.put([64])
        self.assertEqual(slips_in(codes + post.pull(), "keeper")[-1], (END, 31, [0, 10], True))

    def test_what_came_ahead_of_the_fault_is_told(self):
        post = Post("keeper")
        codes = slip_row(BELL, 3, [1], mask=[0] * 4) + slip_row(END, 4, mask=[0] * 4)
        self.assertEqual(post.put(codes + [64, 64]), [("bell", 3, [1]), ("end", 4, 0, []), ("fault", 10, len(codes))])
        # Neither the echo nor the end that were due go any more.
        self.assertEqual(gone(post), [(END, 0, [0, 10], True)])
        self.assertEqual(post.codes_of(4), (None, 0))

    def test_by_an_end_of_a_faults_code(self):
        for code, talk, words in itertools.product(FAULTS, (0, 20, 21, 31), ([], [72])):
            post = busy_post()
            went = post.went()
            self.assertTrue(same(put(post, (END, talk, [0, code] + words), (BELL, 3)), [("end", talk, code, words)]))
            self.assertTrue(same((post.is_dead(), post.fault(), post.waits(), post.went()), (True, None, 0, went)))
            self.assertTrue(same((post.codes_of(talk), post.state(talk)), ((None, code), "ended")))
            self.assertEqual([post.codes_of(one) for one in (22, 23, 1)], [(None, 5), (None, 0), (None, None)])
            self.assertTrue(same((post.pull(), put(post, (BELL, 3)), post.pull(many=3)), ([], [], [])))

    def test_by_an_end_of_a_faults_code_with_a_slip_that_has_begun_to_go(self):
        for many in range(1, 5):
            post = Post("keeper", every=1)
            post.send(3, "bytes", [1, 2])
            first = post.pull(many=many)
            put(post, (END, 3, [0, 12]))
            self.assertEqual(slips_in(first + post.pull(), "keeper"), [(BYTES, 3, [1], False)])
            post = Post("keeper", every=1)
            post.close(3, code=6)
            first = post.pull(many=many)
            put(post, (END, 3, [0, 12]))
            self.assertTrue(same((post.codes_of(3), post.waits()), ((6, 12), 0)))
            self.assertEqual(slips_in(first + post.pull(), "keeper"), [(END, 3, [0, 6], True)])

    def test_a_fault_of_one_kills_the_other_too(self):
        for role, other in (ROLES, ROLES[::-1]):
            one, two = Post(role), Post(other)
            two.send(0, "bytes", [1])
            one.put([255])
            self.assertEqual(two.put(one.pull()), [("end", 0, 10, [])])
            self.assertEqual((two.is_dead(), two.pull(), two.codes_of(0)), (True, [], (None, 10)))


class Refused(unittest.TestCase):
    GOOD = [("send", (3, "words", [72]), {}), ("bell", (3, [1]), {}), ("close", (3,), {})]
    BAD = [("send", (3, "word", [72]), {}, (BadLetter, "word")), ("send", (3, "word", None), {}, (BadLetter, "word")),
           ("send", (3, "words", "Hi"), {}, (BadLetter, "data")),
           ("send", (3, "bytes", [256]), {}, (BadLetter, "data")),
           ("send", (3, "words", [55_296]), {}, (BadLetter, "data")), ("send", (3, None, [1]), {}, (BadLetter, "word")),
           ("bell", (3, [256]), {}, (BadSlip, "data")), ("bell", (3, [1] * 121), {}, (BadSlip, "data")),
           ("bell", (3, None), {}, (BadSlip, "data")), ("bell", (3, "x"), {}, (BadSlip, "data")),
           ("close", (3,), {"code": 200}, (BadEnd, "code")), ("close", (3,), {"code": -1}, (BadEnd, "code")),
           ("close", (3,), {"code": True}, (BadEnd, "code")), ("close", (3,), {"code": None}, (BadEnd, "code")),
           ("close", (3,), {"code": "1"}, (BadEnd, "code")), ("close", (3,), {"code": [1]}, (BadEnd, "code")),
           ("close", (3,), {"words": [65] * 119}, (BadEnd, "words")),
           ("close", (3,), {"words": "x"}, (BadEnd, "words")),
           ("close", (3,), {"words": [8364] * 40}, (BadEnd, "words")),
           ("close", (3,), {"words": None}, (BadEnd, "words")),
           ("close", (3,), {"words": [8364] * 39 + [128]}, (BadEnd, "words")),
           ("close", (3,), {"words": [65_536]}, (BadEnd, "words")),
           ("close", (3,), {"words": [True]}, (BadEnd, "words")),
           ("close", (3,), {"code": 0, "words": [65]}, (BadEnd, "words")),
           ("close", (3,), {"code": 0, "words": ""}, (BadEnd, "words")),
           ("close", (3,), {"code": 200, "words": None}, (BadEnd, "code"))]

    def assert_refused(self, post, word, told, more, wanted):
        before, codes = standing(post), copy.deepcopy(post).pull()
        self.assertEqual(refusal_of(lambda: getattr(post, word)(*told, **more)), wanted, (word, told, more))
        self.assertTrue(same(standing(post), before))
        self.assertEqual(copy.deepcopy(post).pull(), codes)

    def posts(self):
        """Posts in which talk 3 isn't open, or that are dead."""
        closing, sent, ended, both, at_fault, told_dead = [Post("keeper") for _ in range(6)]
        closing.send(3, "bytes", [1])
        closing.close(3)
        sent.close(3)
        sent.pull()
        put(ended, (END, 3))
        both.close(3, code=0)
        put(both, (END, 3, [0, 5]))
        at_fault.put([64])
        put(told_dead, (END, 9, [0, 15]))
        return [closing, sent, ended, both, at_fault, told_dead]

    def test_in_an_open_talk(self):
        for word, told, more, wanted in self.BAD:
            for post in (Post("keeper"), Post("caller"), busy_post()):
                self.assert_refused(post, word, told, more, wanted)
        for code in FAULTS:
            self.assert_refused(Post("keeper"), "close", (3,), {"code": code}, (BadEnd, "code"))

    def test_ended_goes_ahead_of_all(self):
        for post in self.posts():
            for word, told, more in self.GOOD + [row[:3] for row in self.BAD]:
                self.assert_refused(post, word, told, more, (Ended, 3))

    def test_a_dead_post_refuses_in_all_talks(self):
        for post in self.posts()[4:]:
            for talk in range(32):
                for word, told, more in self.GOOD:
                    self.assert_refused(post, word, (talk, *told[1:]), more, (Ended, talk))

    def test_one_that_lives_refuses_in_that_talk_alone(self):
        for post in self.posts()[:4]:
            for talk in range(32):
                for word, told, more in self.GOOD:
                    wanted = (Ended, 3) if talk == 3 else None
                    deed = getattr(copy.deepcopy(post), word)
                    self.assertEqual(refusal_of(lambda: deed(talk, *told[1:], **more)), wanted)

    def test_anything_six_deep(self):
        for thing in things():
            held, post = copy.deepcopy(thing), Post("keeper")
            a_list = type(thing) in (list, tuple)
            codes = a_list and all(type(part) is int and part in range(256) for part in thing)
            words = a_list and all(type(part) is int and part in range(55_296) for part in thing)
            code = type(thing) is int and thing in range(200) and thing not in FAULTS
            self.assertEqual(refusal_of(lambda: post.send(0, thing, [65])), (BadLetter, "word"))
            self.assertEqual(refusal_of(lambda: post.send(0, "bytes", thing)), None if codes else (BadLetter, "data"))
            self.assertEqual(refusal_of(lambda: post.bell(0, thing)), None if codes else (BadSlip, "data"))
            self.assertEqual(refusal_of(lambda: post.close(1, code=thing)), None if code else (BadEnd, "code"))
            self.assertEqual(refusal_of(lambda: post.close(2, words=thing)), None if words else (BadEnd, "words"))
            if type(thing) is not int or thing not in range(32):
                self.assertEqual(refusal_of(lambda: post.bell(thing)), (BadSlip, "talk"))
            self.assertTrue(same(thing, held))

    def test_words_of_no_signs_with_code_0(self):
        post = Post("keeper")
        post.close(3, code=0, words=[])
        post.close(4, code=0, words=())
        self.assertEqual(gone(post), [(END, 3, [], True), (END, 4, [], True)])


class Handed(unittest.TestCase):
    def test_lists_and_tuples_are_the_same(self):
        rows = []
        for kind in (list, tuple):
            post = Post("caller", mask=kind([5, 6, 7, 8]))
            post.send(3, "bytes", kind([1, 2, 3]), sizes=kind([1, 0]))
            post.send(3, "words", kind([8364]))
            post.bell(3, kind([9]))
            post.close(3, words=kind([65]))
            rows.append((post.put(kind([41, 0, 1, 5])), post.pull()))
        self.assertTrue(same(rows[0], rows[1]))

    def test_by_names(self):
        post = Post(every=1, most=5, mask=(1, 1, 1, 1), role="keeper")
        post.send(every=2, sizes=(1,), data=[1, 2, 3], word="bytes", talk=3)
        post.bell(data=[7], talk=4)
        post.close(words=[65], code=2, talk=3)
        self.assertEqual(gone(post), [(BELL, 4, [7], True), (BYTES, 3, [1], False), (MORE, 3, [2, 3], True),
                                      (END, 3, [0, 2, 65], True)])
        self.assertEqual((post.state(talk=3), post.codes_of(talk=3), post.put(codes=[])), ("closing", (2, None), []))
        for wrong in (lambda: Post("caller", (1, 2, 3, 4)), lambda: Post(), lambda: post.pull(3),
                      lambda: post.close(5, 1), lambda: post.send(5, "bytes", [1], [1]), lambda: post.bell()):
            self.assertRaises(TypeError, wrong)

    def test_what_is_handed_in_is_neither_changed_nor_kept(self):
        mask, data, sizes, ring, words = [5, 6, 7, 8], [1, 2, 3], [1], [9, 9], [65, 66]
        codes = slip_row(BELL, 3, [1, 2])
        post, other = Post("caller", mask=mask), Post("caller", mask=tuple(mask))
        for one in (post, other):
            one.send(3, "bytes", data, sizes=sizes)
            one.bell(3, ring)
            one.close(4, words=words)
            one.put(codes)
        self.assertTrue(same((mask, data, sizes, ring, words, codes),
                             ([5, 6, 7, 8], [1, 2, 3], [1], [9, 9], [65, 66], slip_row(BELL, 3, [1, 2]))))
        wanted = other.pull()
        for row in (mask, data, sizes, ring, words, codes):
            row[:] = [77] * 5
        self.assertEqual(post.pull(), wanted)

    def test_told_lists_that_are_changed_change_nothing(self):
        post = Post("keeper")
        events = put(post, (BELL, 3, [1, 2]), (BELL, 4, []), (BELL, 4, []))
        self.assertEqual(len({id(event[2]) for event in events}), 3)
        for event in events:
            event[2].append(7)
        events.clear()
        post.send(0, "bytes", [5, 6])
        first = post.pull(many=4)
        first.append(99)
        first[0] = 98
        self.assertEqual([first[1:4]] + [post.pull()],
                         [[3, 2, 1], [2, 42, 4, 0, 42, 4, 0, 34, 0, 2, 5, 6]])
        self.assertIsNot(post.pull(), post.pull())
        self.assertIsNot(post.put([]), post.put([]))

    def test_asking_changes_nothing(self):
        asked, other = Post("caller", every=1), Post("caller", every=1)
        codes = []
        for post in (asked, other):
            post.send(3, "bytes", [1, 2, 3])
            post.close(3)
        for _ in range(40):
            standing(asked)
            codes += asked.pull(many=1)
            self.assertEqual(standing(asked), standing(asked))
        self.assertEqual(codes, other.pull())

    def test_two_posts_beside_one_another(self):
        one, other = Post("keeper"), Post("keeper")
        one.send(3, "bytes", [1])
        one.close(4)
        self.assertEqual((other.waits(), other.state(4), other.pull()), (0, "open", []))


if __name__ == "__main__":
    unittest.main()

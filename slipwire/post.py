"""A post: what it has to send goes slip by slip, and what comes to it is read and answered."""

from slipwire.codes import DONE, EVERY, MOST, is_fault
from slipwire.cutting import slips_for
from slipwire.ends import closing_slip, end_slip
from slipwire.errors import Ended
from slipwire.kinds import is_number
from slipwire.masks import mask_of
from slipwire.reading import Reader
from slipwire.slips import Slip, with_mask
from slipwire.sorts import BELL, ECHO, ENDING, GREATEST_TALK
from slipwire.waiting import Waiting


class Post:
    """A caller, whose slips are masked, or a keeper, whose slips aren't."""

    def __init__(self, role, *, mask=(1, 2, 3, 4), most=MOST, every=EVERY):
        self.role = role
        self.mask = tuple(mask)
        self.every = every
        # What a keeper reads are a caller's slips.
        self.reader = Reader(role == "keeper", most=most)
        self.waiting = Waiting()
        self.going = []
        self.number = 0
        # By talks: the codes of the post's own ends, whether these have begun to go, the codes of the other's.
        self.own = {}
        self.own_begun = {}
        self.others = {}
        self.dead = False

    def send(self, talk, word, data, *, sizes=(), every=None):
        """The slips of a letter wait in that talk."""
        self.check_open(talk)
        slips = slips_for(talk, word, data, sizes=sizes, every=self.every if every is None else every)
        self.waiting.put_slips(talk, slips)

    def bell(self, talk, data=()):
        """A bell waits among the controls."""
        self.check_open(talk)
        self.waiting.put_control(Slip(BELL, talk, data))

    def close(self, talk, *, code=DONE, words=()):
        """An end waits behind the slips that wait in that talk."""
        self.check_open(talk)
        self.waiting.put_slips(talk, [closing_slip(talk, code, words)])
        self.own[talk] = code

    def pull(self, *, many=None):
        """The next so many bytes that go, all where many is None."""
        told = []
        while many is None or len(told) < many:
            if len(self.going) == 0 and not self.begin_slip():
                break
            part = self.going if many is None else self.going[:many - len(told)]
            told += part
            self.going = self.going[len(part):]
        return told

    def put(self, codes):
        """The events that these bytes bring, each of them heeded."""
        events = self.reader.put(codes)
        for event in events:
            self.heed(event)
        return events

    def codes_of(self, talk):
        """The pair of the codes of the post's own end in that talk and of the other's, None where there is none."""
        # To a dict True is 1, and a list is no key at all; neither of them is a talk.
        if not is_number(talk):
            return None, None
        return self.own.get(talk), self.others.get(talk)

    def state(self, talk):
        own, other = self.codes_of(talk)
        if other is not None:
            return "ended"
        return "open" if own is None else "closing"

    def is_dead(self):
        return self.dead

    def fault(self):
        """The pair (code, at) of what came, None where there is no fault."""
        return self.reader.fault()

    def waits(self):
        """How many slips wait."""
        return self.waiting.how_many()

    def went(self):
        """How many slips have begun to go."""
        return self.number

    def begun(self):
        """The talks in which a letter that comes is begun."""
        return self.reader.begun()

    def twin(self):
        """A Post of its own that stands where this one does."""
        other = Post(self.role, mask=self.mask, every=self.every)
        other.reader = self.reader.twin()
        other.waiting = self.waiting.twin()
        other.going = list(self.going)
        other.number = self.number
        other.own = dict(self.own)
        other.own_begun = dict(self.own_begun)
        other.others = dict(self.others)
        other.dead = self.dead
        return other

    def check_open(self, talk):
        if self.dead or self.state(talk) != "open":
            raise Ended(talk)

    def begin_slip(self):
        """Whether there is a slip that begins to go now."""
        slip = self.waiting.take_next()
        if slip is None:
            return False
        if slip.kind == ENDING:
            self.own_begun[slip.talk] = True
        if self.role == "caller":
            slip = with_mask(slip, mask_of(self.mask, self.number))
        self.going = slip.codes()
        self.number += 1
        return True

    def heed(self, event):
        if event[0] == "bell":
            self.heed_bell(event[1], event[2])
        elif event[0] == "end":
            self.heed_end(event[1], event[2])
        elif event[0] == "fault":
            self.heed_fault(event[1])

    def heed_bell(self, talk, data):
        if talk not in self.own_begun:
            self.waiting.put_control(Slip(ECHO, talk, data))

    def heed_end(self, talk, code):
        if self.state(talk) == "open":
            self.put_end(talk, code)
        self.others[talk] = code
        self.waiting.drop_letters(talk)
        if is_fault(code):
            self.die()

    def heed_fault(self, code):
        self.die()
        talks = [talk for talk in range(GREATEST_TALK + 1) if talk not in self.own_begun]
        if len(talks) > 0:
            self.put_end(talks[0], code)

    def put_end(self, talk, code):
        """An end without words waits among the controls."""
        self.waiting.put_control(end_slip(talk, code, []))
        self.own[talk] = code

    def die(self):
        self.dead = True
        self.waiting.drop_all()
        # An end that waits no more is none any more; what has begun to go still goes.
        self.own = {talk: code for talk, code in self.own.items() if talk in self.own_begun}

    def __repr__(self):
        return f"Post({self.role})"

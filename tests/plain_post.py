"""Posts and a wire, done once more by other means, to compare the program with."""

import itertools

from plain import Plain, as_utf8, slip_row

FAULTS = range(10, 17)


class Refused(Exception):
    """What a deed is refused with: the name of the class, and its field."""


def is_number(thing):
    return type(thing) is int


def fits(thing, word):
    """Whether a thing may be handed in as the data of a letter of that word."""
    if type(thing) not in (list, tuple):
        return False
    if word == "bytes":
        return all(is_number(part) and part in range(256) for part in thing)
    return all(is_number(part) and part in range(65_536) and part not in range(55_296, 57_344) for part in thing)


def cut(data, sizes, every):
    """The pieces in which bytes go."""
    pieces = []
    for size in itertools.chain(sizes, itertools.repeat(every)):
        if not data:
            return pieces or [[]]
        pieces.append(data[:size])
        data = data[size:]


def slips_of(talk, word, data, sizes, every):
    """The slips (kind, talk, data, last) of a letter."""
    if word not in ("words", "bytes"):
        raise Refused("BadLetter", "word")
    if not fits(data, word):
        raise Refused("BadLetter", "data")
    pieces = cut(as_utf8(data) if word == "words" else list(data), sizes, every)
    kinds = [1 if word == "words" else 2] + [0] * (len(pieces) - 1)
    return [(kind, talk, piece, place == len(pieces)) for place, (kind, piece) in enumerate(zip(kinds, pieces), 1)]


def code_of(slip):
    return (slip[2] or [0, 0])[1]


class PlainPost:
    """One list of all that waits, and all the bytes that ever came, which are read anew each time."""

    def __init__(self, role, *, mask=(1, 2, 3, 4), most=4096, every=100):
        self.role, self.mask, self.most, self.every = role, mask, most, every
        self.queue, self.begun_slips, self.left, self.last_talk = [], [], [], -1
        self.codes, self.events = [], []

    def read(self):
        return Plain(self.codes, self.role == "keeper", self.most)

    def is_dead(self):
        return any(event[0] == "fault" or event[0] == "end" and event[2] in FAULTS for event in self.events)

    def codes_of(self, talk):
        own = [code_of(slip) for slip in self.begun_slips + [slip for slip, _ in self.queue] if slip[:2] == (8, talk)]
        others = [event[2] for event in self.events if event[:2] == ("end", talk)]
        assert len(own) < 2 and len(others) < 2
        return (own or [None])[0], (others or [None])[0]

    def state(self, talk):
        own, other = self.codes_of(talk)
        return "ended" if other is not None else "open" if own is None else "closing"

    def fault(self):
        return self.read().fault

    def waits(self):
        return len(self.queue)

    def went(self):
        return len(self.begun_slips)

    def check(self, talk):
        if self.is_dead() or self.state(talk) != "open":
            raise Refused("Ended", talk)

    def send(self, talk, word, data, *, sizes=(), every=None):
        self.check(talk)
        self.queue += [(slip, "row") for slip in slips_of(talk, word, data, sizes, every or self.every)]

    def bell(self, talk, data=()):
        self.check(talk)
        if not fits(data, "bytes") or len(data) > 120:
            raise Refused("BadSlip", "data")
        self.queue.append(((9, talk, list(data), True), "control"))

    def close(self, talk, *, code=1, words=()):
        self.check(talk)
        if not is_number(code) or code not in range(200) or code in FAULTS:
            raise Refused("BadEnd", "code")
        if not fits(words, "words") or len(as_utf8(words)) > (118 if code else 0):
            raise Refused("BadEnd", "words")
        self.queue.append(((8, talk, [0, code] + as_utf8(words) if code else [], True), "row"))

    def begin(self):
        # Python's own sorting leaves those of one place as they came to wait.
        def place(entry):
            (_, talk, _, _), group = entry
            return (0,) if group == "control" else (1, talk <= self.last_talk, talk)

        entry = sorted(self.queue, key=place)[0]
        self.queue.remove(entry)
        (kind, talk, data, last), group = entry
        number = len(self.begun_slips)
        mask = None
        if self.role == "caller":
            mask = tuple((byte + number * step) % 256 for byte, step in zip(self.mask, (1, 3, 5, 7)))
        self.left = slip_row(kind, talk, data, last=last, mask=mask)
        self.begun_slips.append(entry[0])
        if group == "row":
            self.last_talk = talk

    def pull(self, *, many=None):
        told = []
        while len(told) != many and (self.left or self.queue):
            if not self.left:
                self.begin()
            told.append(self.left.pop(0))
        return told

    def put(self, codes):
        if self.is_dead():
            return []
        self.codes += codes
        fresh = self.read().events[len(self.events):]
        for event in fresh:
            self.heed(event)
        return fresh

    def own_end_begun(self, talk):
        return any(slip[:2] == (8, talk) for slip in self.begun_slips)

    def heed(self, event):
        word, talk = event[:2]
        if word == "bell" and not self.own_end_begun(talk):
            self.queue.append(((10, talk, event[2], True), "control"))
        if word == "end":
            if self.state(talk) == "open":
                self.queue.append(((8, talk, [0, event[2]] if event[2] else [], True), "control"))
            self.queue = [entry for entry in self.queue if entry[0][1] != talk or entry[0][0] > 7]
        self.events.append(event)
        if self.is_dead():
            self.queue = []
        if word == "fault":
            free = [talk for talk in range(32) if not self.own_end_begun(talk)]
            self.queue = [((8, talk, [0, event[1]], True), "control") for talk in free[:1]]


class PlainWire:
    """The deeds alone, done anew from the first one on whenever something is asked."""

    def __init__(self, **told):
        self.made, self.done, self.entries = told, [], []

    def do(self, word, *told, **more):
        """What a deed tells; refused, it isn't kept."""
        self.entries += [("in", word), ("out", word)]
        if word == "back":
            return bool(self.done) and bool(self.done.pop())
        answer = self.stand(self.done + [(word, told, more)])["answer"]
        self.done.append((word, told, more))
        return answer

    def stand(self, deeds):
        posts = {role: PlainPost(role, **self.made) for role in ("caller", "keeper")}
        stand = {"posts": posts, "caller": [], "keeper": [], "broken": False, "answer": None}
        for word, told, more in deeds:
            stand["answer"] = getattr(self, "do_" + word)(stand, *told, **more)
        return stand

    def do_send(self, stand, role, *told, **more):
        return stand["posts"][role].send(*told, **more)

    def do_bell(self, stand, role, *told, **more):
        return stand["posts"][role].bell(*told, **more)

    def do_close(self, stand, role, *told, **more):
        return stand["posts"][role].close(*told, **more)

    def do_go(self, stand, role, many=None):
        codes = [] if stand["broken"] else stand["posts"][role].pull(many=many)
        stand["keeper" if role == "caller" else "caller"] += codes
        return len(codes)

    def do_come(self, stand, role, many=None):
        way = stand[role]
        many = len(way) if many is None else many
        stand[role] = way[many:]
        return stand["posts"][role].put(way[:many])

    def do_run(self, stand):
        pairs = []
        while stand["caller"] or stand["keeper"] or any(post.queue or post.left for post in stand["posts"].values()):
            if stand["broken"]:
                break
            for one, other in (("caller", "keeper"), ("keeper", "caller")):
                self.do_go(stand, one)
                pairs += [(other, event) for event in self.do_come(stand, other)]
        return pairs

    def do_bend(self, stand, role, at, byte):
        if at not in range(len(stand[role])):
            raise Refused("NoByte", at)
        stand[role][at] = byte

    def do_break_off(self, stand):
        stand.update(caller=[], keeper=[], broken=True)
        return tuple(stand["posts"][role].read().begun() for role in ("caller", "keeper"))

    def asked(self, many=None):
        """All that a Wire tells when asked, behind its first so many deeds."""
        stand = self.stand(self.done[:many])
        rows = [stand["broken"], len(self.done[:many])]
        for role in ("caller", "keeper"):
            post = stand["posts"][role]
            rows += [post.events, [post.state(talk) for talk in range(32)], stand[role], post.is_dead(), post.fault(),
                     [post.codes_of(talk) for talk in range(32)]]
        return rows

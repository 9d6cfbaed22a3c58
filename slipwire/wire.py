"""A wire with both its posts, kept by deeds that can be taken back."""

from slipwire.codes import DONE, EVERY, MOST
from slipwire.errors import NoDeed
from slipwire.standing import event_copy, first_stand


class Wire:
    """A caller and a keeper, with a row of bytes under way to each of them."""

    def __init__(self, *, mask=(1, 2, 3, 4), most=MOST, every=EVERY):
        # How it stood behind each deed. No Stand in here is ever changed: a deed is done to a twin of the last one.
        self.stands = [first_stand(mask, most, every)]
        self.entries = []
        self.unended = 0

    def send(self, role, talk, word, data, *, sizes=(), every=None):
        """The slips of a letter wait at that post."""
        self.do("send", lambda stand: stand.posts[role].send(talk, word, data, sizes=sizes, every=every))

    def bell(self, role, talk, data=()):
        """A bell waits at that post."""
        self.do("bell", lambda stand: stand.posts[role].bell(talk, data))

    def close(self, role, talk, *, code=DONE, words=()):
        """An end waits at that post."""
        self.do("close", lambda stand: stand.posts[role].close(talk, code=code, words=words))

    def go(self, role, *, many=None):
        """How many bytes of that post are under way now."""
        return self.do("go", lambda stand: stand.let_go(role, many))

    def come(self, role, *, many=None):
        """The events that the next so many bytes under way bring to that post."""
        return self.do("come", lambda stand: stand.let_come(role, many))

    def run(self):
        """The pairs (role, event) of all that goes and comes, until there is nothing more."""
        return self.do("run", lambda stand: stand.let_run())

    def bend(self, role, at, byte):
        """The byte of that place under way to that post is this one from now on; refused with NoByte."""
        self.do("bend", lambda stand: stand.bend_way(role, at, byte))

    def break_off(self):
        """The pair of the talks in which a letter is begun, to the caller and to the keeper."""
        return self.do("break_off", lambda stand: stand.break_ways())

    def back(self):
        """Whether there was a deed, which is taken back."""
        return self.logged("back", lambda: self.take_back())

    def told(self, role):
        """All events told to that post."""
        return [event_copy(event) for event in self.now().events[role]]

    def state(self, role, talk):
        return self.now().posts[role].state(talk)

    def codes_of(self, role, talk):
        return self.now().posts[role].codes_of(talk)

    def is_dead(self, role):
        return self.now().posts[role].is_dead()

    def fault(self, role):
        return self.now().posts[role].fault()

    def under_way(self, role):
        """The codes under way to that post."""
        return list(self.now().ways[role])

    def is_broken(self):
        return self.now().broken

    def deeds(self):
        """How many deeds can be taken back."""
        return len(self.stands) - 1

    def as_told(self, many):
        """A Wire of its own as this one was behind its first so many deeds; refused with NoDeed."""
        if not 0 <= many <= self.deeds():
            raise NoDeed(many)
        other = Wire()
        other.stands = self.stands[:many + 1]
        return other

    def twin(self):
        return self.as_told(self.deeds())

    def log(self):
        """The pairs of "in" or "out" and the word of each deed, and of back, as they began and ended."""
        return list(self.entries)

    def is_open(self):
        """Whether no deed is begun that hasn't ended."""
        return self.unended == 0

    def now(self):
        return self.stands[-1]

    def do(self, word, act):
        return self.logged(word, lambda: self.add_deed(act))

    def logged(self, word, act):
        self.entries.append(("in", word))
        self.unended += 1
        try:
            return act()
        finally:
            self.entries.append(("out", word))
            self.unended -= 1

    def add_deed(self, act):
        # Where act is refused, its half-done stand is left behind.
        stand = self.now().twin()
        told = act(stand)
        self.stands.append(stand)
        return told

    def take_back(self):
        if self.deeds() == 0:
            return False
        self.stands.pop()
        return True

    def __repr__(self):
        return f"Wire({self.deeds()})"

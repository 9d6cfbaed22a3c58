"""Reading: what a row of bytes tells, and where it's at fault, however it is cut."""

from slipwire.codes import END, GREAT, MOST, ORDER, SIGNS, is_fault
from slipwire.coming import Coming
from slipwire.contents import Content
from slipwire.errors import Fault
from slipwire.sorts import ENDING, MORE, is_control


class Reader:
    """Reads bytes as they come, slips masked or not as masks tells, letters of at most most bytes."""

    def __init__(self, masks, *, most=MOST):
        self.masks = masks
        self.most = most
        self.far = 0
        self.wrong = None
        self.stopped = False
        self.letters = {}
        self.closed = {}
        self.coming = Coming(masks)
        self.fresh = None

    def put(self, codes):
        """The list of events that these bytes bring."""
        events = []
        for byte in codes:
            if self.stopped:
                break
            event = self.event_of(byte)
            if event is not None:
                events.append(event)
        return events

    def begun(self):
        """The talks where a letter is begun, a whole slip of it having come."""
        return sorted(self.letters)

    def ended(self):
        """The talks that have had their end."""
        return sorted(self.closed)

    def how_far(self):
        """How many bytes were read."""
        return self.far

    def fault(self):
        """The pair (code, at), None where there is no fault."""
        return self.wrong

    def next_part(self):
        """The word of the part of a slip in which the next byte stands."""
        return self.coming.next_part()

    def twin(self):
        """A Reader of its own that stands where this one does."""
        other = Reader(self.masks, most=self.most)
        other.far = self.far
        other.wrong = self.wrong
        other.stopped = self.stopped
        other.letters = {talk: letter.twin() for talk, letter in self.letters.items()}
        other.closed = dict(self.closed)
        other.coming = self.coming.twin()
        other.fresh = None if self.fresh is None else self.fresh.twin()
        return other

    def event_of(self, byte):
        """The event that this byte brings, None where there is none."""
        self.far += 1
        try:
            return self.take(byte)
        except Fault as refusal:
            # Every byte is looked at as it comes, so it is this one that is at fault, wherever the refusal counts from.
            self.wrong = (refusal.code, self.far - 1)
            self.stopped = True
            return "fault", refusal.code, self.far - 1

    def take(self, byte):
        slip = self.coming
        part = slip.next_part()
        meant = slip.put(byte)
        if part == "talk":
            self.check_order()
        elif part == "size" and slip.size is not None:
            self.begin_data()
        elif part == "data":
            self.content().put(meant)
        return self.end_slip() if slip.is_whole() else None

    def check_order(self):
        slip = self.coming
        goes_on = slip.talk in self.letters
        misplaced = not is_control(slip.kind) and goes_on != (slip.kind == MORE)
        if misplaced or slip.talk in self.closed:
            raise Fault(ORDER, self.far - 1)

    def begin_data(self):
        slip = self.coming
        if slip.kind != MORE:
            self.fresh = Content(slip.kind)
        if not is_control(slip.kind) and self.content().how_many() + slip.size > self.most:
            raise Fault(GREAT, self.far - 1)
        if slip.kind == ENDING and slip.size == 1:
            raise Fault(END, self.far - 1)

    def content(self):
        """What the data of the slip that comes belongs to."""
        return self.letters[self.coming.talk] if self.coming.kind == MORE else self.fresh

    def end_slip(self):
        """The event of the slip that is whole now, None where its letter goes on."""
        slip = self.coming
        content = self.content()
        if slip.last and not content.is_whole():
            raise Fault(SIGNS, self.far - 1)
        self.coming = Coming(self.masks)
        if not slip.last:
            self.letters[slip.talk] = content
            return None
        if slip.kind == ENDING:
            self.closed[slip.talk] = True
            self.stopped = is_fault(content.end_code())
        if slip.kind == ENDING or not is_control(slip.kind):
            self.letters.pop(slip.talk, None)
        return content.event(slip.talk)


def events_of(codes, *, masks, most=MOST):
    """The events that a new Reader tells of these codes."""
    return Reader(masks, most=most).put(codes)

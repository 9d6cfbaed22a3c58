"""What the data of a letter, or of a control, brings, byte by byte."""

from slipwire.codes import END
from slipwire.errors import Fault
from slipwire.signs import Signs
from slipwire.sorts import BYTES, ENDING, SORT_WORDS, WORDS, is_control

GREATEST_CODE = 199


class Content:
    """The data of a letter of any number of slips, or of a control; kind is the sort of the first slip."""

    def __init__(self, kind):
        self.kind = kind
        self.data = []
        self.signs = Signs()

    def put(self, byte):
        """Refused with Fault where the byte can't stand behind those that were put."""
        if self.has_signs_now():
            self.signs.put(byte)
            return
        if self.kind == ENDING and not can_be_code(self.data, byte):
            raise Fault(END, len(self.data))
        self.data.append(byte)

    def has_signs_now(self):
        return self.kind == WORDS or self.kind == ENDING and len(self.data) == 2

    def how_many(self):
        return len(self.data) + self.signs.how_many()

    def is_whole(self):
        """Whether no sign is begun."""
        return self.signs.is_whole()

    def end_code(self):
        """The code of an end: 0 of one without data."""
        return self.data[1] if len(self.data) == 2 else 0

    def event(self, talk):
        """The event that tells of it, where it came in that talk."""
        if self.kind == ENDING:
            return "end", talk, self.end_code(), self.signs.words()
        if is_control(self.kind):
            return SORT_WORDS[self.kind], talk, list(self.data)
        data = list(self.data) if self.kind == BYTES else self.signs.words()
        return "letter", talk, SORT_WORDS[self.kind], data

    def twin(self):
        """One of its own that stands where this one does."""
        other = Content(self.kind)
        other.data = list(self.data)
        other.signs = self.signs.twin()
        return other


def can_be_code(ahead, byte):
    """Whether a byte can stand behind those ahead of it among the two of an end's code."""
    return byte == 0 if ahead == [] else 1 <= byte <= GREATEST_CODE

"""One slip as it comes, byte by byte."""

from slipwire.sorts import front_at, is_last_in, sort_in

FRONT_PARTS = ("head", "talk", "size")


class Coming:
    """A slip of which any number of bytes have come, masked or not as masks tells."""

    def __init__(self, masks):
        self.masks = masks
        self.front = []
        self.kind = None
        self.last = None
        self.talk = None
        self.size = None
        self.mask = []
        self.many = 0

    def next_part(self):
        """The word of the part in which the next byte stands."""
        if self.size is None:
            return FRONT_PARTS[min(len(self.front), 2)]
        return "mask" if self.lacks_mask() else "data"

    def lacks_mask(self):
        return self.masks and len(self.mask) < 4

    def is_whole(self):
        return self.size is not None and not self.lacks_mask() and self.many == self.size

    def put(self, byte):
        """The byte as it is meant: unmasked where it is one of masked data.

        Refused with Fault where head, talk or size can't be so.
        """
        part = self.next_part()
        if part == "data":
            self.many += 1
            return byte ^ self.mask[(self.many - 1) % 4] if self.masks else byte
        if part == "mask":
            self.mask.append(byte)
        else:
            self.put_front(byte)
        return byte

    def put_front(self, byte):
        told = front_at(self.front + [byte], 0, self.masks)
        self.front.append(byte)
        if told is not None:
            self.size = told[0]
        if len(self.front) == 1:
            self.kind = sort_in(byte)
            self.last = is_last_in(byte)
        elif len(self.front) == 2:
            self.talk = byte

    def twin(self):
        """One of its own that stands where this one does."""
        other = Coming(self.masks)
        other.front = list(self.front)
        other.kind = self.kind
        other.last = self.last
        other.talk = self.talk
        other.size = self.size
        other.mask = list(self.mask)
        other.many = self.many
        return other

"""The refusals of this program: a class each, with the fields that tell why."""


class BadSlip(ValueError):
    """A slip can't be made: part is the word of what isn't so."""

    def __init__(self, part):
        ValueError.__init__(self, f"no slip can have this {part}")
        self.part = part


class BadLetter(ValueError):
    """A letter can't be cut: part is the word of what isn't so."""

    def __init__(self, part):
        ValueError.__init__(self, f"no letter can have this {part}")
        self.part = part


class BadEnd(ValueError):
    """A talk can't be closed so: part is the word of what isn't so."""

    def __init__(self, part):
        ValueError.__init__(self, f"no end can have this {part}")
        self.part = part


class BadText(ValueError):
    """A text is that of no slip."""

    def __init__(self, text):
        ValueError.__init__(self, f"no slip is written so: {text}")
        self.text = text


class BadRow(ValueError):
    """A row of a text, counted from 0, isn't written as it must be."""

    def __init__(self, row):
        ValueError.__init__(self, f"row {row} can't be read")
        self.row = row


class Fault(ValueError):
    """Bytes can't go on at the byte of place at."""

    def __init__(self, code, at):
        ValueError.__init__(self, f"fault {code} at byte {at}")
        self.code = code
        self.at = at


class NoSlip(IndexError):
    """The slip of that number can't come where it stands."""

    def __init__(self, number):
        IndexError.__init__(self, f"slip {number} can't come here")
        self.number = number


class NoByte(IndexError):
    """No byte of that place is under way."""

    def __init__(self, at):
        IndexError.__init__(self, f"no byte {at} is under way")
        self.at = at


class NoDeed(LookupError):
    """There weren't so many deeds."""

    def __init__(self, many):
        LookupError.__init__(self, f"there weren't {many} deeds")
        self.many = many


class Ended(RuntimeError):
    """Nothing more can be sent in that talk."""

    def __init__(self, talk):
        RuntimeError.__init__(self, f"talk {talk} isn't open")
        self.talk = talk

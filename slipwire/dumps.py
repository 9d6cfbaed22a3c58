"""Codes and events written as texts."""

from slipwire.errors import BadRow
from slipwire.figures import numbers_text

SIXTEEN = "0123456789abcdef"
IN_A_ROW = 16


def dump(codes):
    """Each byte as two signs, 16 in a row."""
    pairs = [f"{byte:02x}" for byte in codes]
    return "\n".join([" ".join(pairs[at:at + IN_A_ROW]) for at in range(0, len(pairs), IN_A_ROW)])


def dumped_in(text):
    """The bytes so written, any number in a row; refused with BadRow."""
    codes = []
    for number, row in enumerate(text.split("\n")):
        told = [] if row == "" else [byte_of(pair) for pair in row.split(" ")]
        if None in told:
            raise BadRow(number)
        codes += told
    return codes


def byte_of(pair):
    """The byte that two signs write, None where they aren't so written."""
    if len(pair) != 2 or not all([sign in SIXTEEN for sign in pair]):
        return None
    return SIXTEEN.index(pair[0]) * 16 + SIXTEEN.index(pair[1])


def event_text(event):
    """The parts of an event, parted by blanks: `letter 3 words 72,105`."""
    return " ".join([numbers_text(part) if isinstance(part, (list, tuple)) else str(part) for part in event])

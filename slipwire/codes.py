"""The codes of faults, and the numbers that stand where nothing else is told."""

from slipwire.kinds import is_number

HEAD = 10
TALK = 11
SIZE = 12
ORDER = 13
SIGNS = 14
GREAT = 15
END = 16

DONE = 1
MOST = 4096
EVERY = 100


def is_fault(thing):
    """Whether a thing is the code of a fault."""
    return is_number(thing) and HEAD <= thing <= END

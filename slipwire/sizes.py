"""Sizes, as they are written in a slip."""

from slipwire.codes import SIZE
from slipwire.errors import Fault

# The first byte where two bytes follow, and where three do; any lesser one is the size itself.
TWO_FOLLOW = 250
THREE_FOLLOW = 251


def size_bytes(size):
    """The bytes by which a size is written."""
    if size < TWO_FOLLOW:
        return [size]
    if size < 65536:
        return [TWO_FOLLOW, size // 256, size % 256]
    return [THREE_FOLLOW, size // 65536, size // 256 % 256, size % 256]


def size_at(codes, at):
    """The pair (size, behind) of the size written from the byte at on, None where codes end ahead of its last byte."""
    if at >= len(codes):
        return None
    first = codes[at]
    if first < TWO_FOLLOW:
        return first, at + 1
    if first == TWO_FOLLOW:
        return size_of_two(codes, at + 1)
    if first == THREE_FOLLOW:
        return size_of_three(codes, at + 1)
    raise Fault(SIZE, at)


def size_of_two(codes, at):
    if at + 1 >= len(codes):
        return None
    size = codes[at] * 256 + codes[at + 1]
    # Only the second byte settles it: behind a first one that is 0, there are still sizes from 250 to 255.
    if size < TWO_FOLLOW:
        raise Fault(SIZE, at + 1)
    return size, at + 2


def size_of_three(codes, at):
    # The first byte settles it, whether or not the others have come.
    if at < len(codes) and codes[at] == 0:
        raise Fault(SIZE, at)
    if at + 2 >= len(codes):
        return None
    return codes[at] * 65536 + codes[at + 1] * 256 + codes[at + 2], at + 3

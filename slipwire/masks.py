"""Masks: four bytes with which the data of a slip is masked."""

from slipwire.kinds import is_byte

STEPS = (1, 3, 5, 7)


def is_mask(thing):
    """Whether a thing is a tuple of four bytes."""
    return isinstance(thing, tuple) and len(thing) == 4 and all([is_byte(part) for part in thing])


def masked(codes, mask, *, start=0):
    """The codes masked, the first of them as the byte of place start; masked once more they are as they were."""
    return [byte ^ mask[(start + place) % 4] for place, byte in enumerate(codes)]


def mask_of(first, number):
    """The mask of the slip of that number, where that of slip 0 is the first mask."""
    return tuple([(byte + number * step) % 256 for byte, step in zip(first, STEPS)])

"""Slips, and how they are written as bytes."""

from slipwire.errors import BadSlip
from slipwire.kinds import are_codes, is_number
from slipwire.masks import is_mask, masked
from slipwire.sizes import size_bytes
from slipwire.sorts import (GREATEST_CONTROL, GREATEST_TALK, LAST, MASKED, SORT_WORDS, front_at, is_control,
                            is_last_in, sort_in)


class Slip:
    """One slip: its sort, its talk, its data, whether it's a last one, and its mask."""

    def __init__(self, kind, talk, data=(), *, last=True, mask=None):
        wrong = wrong_part(kind, talk, data, last, mask)
        if wrong is not None:
            raise BadSlip(wrong)
        self.kind = kind
        self.talk = talk
        self.data = tuple(data)
        self.last = last
        self.mask = None if mask is None else tuple(mask)

    def codes(self):
        """The bytes by which the slip is written."""
        front = [head_of(self), self.talk] + size_bytes(len(self.data))
        if self.mask is None:
            return front + list(self.data)
        return front + list(self.mask) + masked(self.data, self.mask)

    def __len__(self):
        return len(self.codes())

    def __eq__(self, other):
        return (isinstance(other, Slip) and self.kind == other.kind and self.talk == other.talk
                and self.data == other.data and self.last == other.last and self.mask == other.mask)

    def __str__(self):
        parts = [SORT_WORDS[self.kind], str(self.talk)]
        if self.last and not is_control(self.kind):
            parts.append("last")
        if self.mask is not None:
            parts.append("masked")
        parts.append(str(len(self.data)))
        return " ".join(parts)

    def __repr__(self):
        return f"<{str(self)}>"


def with_mask(slip, mask):
    """The same slip, masked by this mask, or not masked where it's None."""
    return Slip(slip.kind, slip.talk, slip.data, last=slip.last, mask=mask)


def head_of(slip):
    head = slip.kind
    if slip.mask is not None:
        head += MASKED
    if slip.last:
        head += LAST
    return head


def wrong_part(kind, talk, data, last, mask):
    """The word of the first of these that no slip can have, None where there is none."""
    if not is_number(kind) or kind not in SORT_WORDS:
        return "kind"
    if not is_number(talk) or not 0 <= talk <= GREATEST_TALK:
        return "talk"
    if not are_codes(data) or is_control(kind) and len(data) > GREATEST_CONTROL:
        return "data"
    if not isinstance(last, bool) or is_control(kind) and not last:
        return "last"
    if not can_be_mask(mask):
        return "mask"
    return None


def can_be_mask(thing):
    # is_mask tells True of tuples alone, a slip takes a list, too.
    if isinstance(thing, list):
        return is_mask(tuple(thing))
    return thing is None or is_mask(thing)


def slip_at(codes, at, *, masks):
    """The pair (Slip, behind) of the slip written from the byte at on, None where codes end ahead of its last byte.

    Refused with Fault at the first byte at which it can't go on, where slips come masked or not as masks tells.
    """
    front = front_at(codes, at, masks)
    if front is None:
        return None
    size, begin = front
    if masks:
        begin += 4
    behind = begin + size
    if behind > len(codes):
        return None
    data = codes[begin:behind]
    mask = None
    if masks:
        mask = codes[begin - 4:begin]
        data = masked(data, mask)
    slip = Slip(sort_in(codes[at]), codes[at + 1], data, last=is_last_in(codes[at]), mask=mask)
    return slip, behind

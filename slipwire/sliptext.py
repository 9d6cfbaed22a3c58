"""Slips written as texts."""

from slipwire.errors import BadSlip, BadText
from slipwire.figures import number_in
from slipwire.slips import Slip
from slipwire.sorts import SORT_WORDS, is_control, sort_of


def slip_text(slip):
    """The text of a slip: `words 3 last : 72 105`."""
    parts = [SORT_WORDS[slip.kind], str(slip.talk)]
    if slip.last and not is_control(slip.kind):
        parts.append("last")
    if slip.mask is not None:
        parts += ["mask"] + [str(byte) for byte in slip.mask]
    return " ".join(parts + [":"] + [str(byte) for byte in slip.data])


def slip_in(text):
    """The Slip whose slip_text is just this; refused with BadText."""
    slip = slip_of(text.split(" "))
    # What was read with some license is this slip only where it's written so.
    if slip is None or slip_text(slip) != text:
        raise BadText(text)
    return slip


def slip_of(words):
    """The Slip that these words may be meant to write, None where there is none."""
    if ":" not in words:
        return None
    colon = words.index(":")
    front = words[:colon]
    kind = sort_of(front[0]) if len(front) > 1 else None
    if kind is None:
        return None
    last = is_control(kind) or "last" in front
    mask = [number_in(word) for word in front[front.index("mask") + 1:]] if "mask" in front else None
    data = [number_in(word) for word in words[colon + 1:]]
    try:
        return Slip(kind, number_in(front[1]), data, last=last, mask=mask)
    except BadSlip:
        return None

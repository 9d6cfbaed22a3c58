"""Reports of a row of bytes: which part of a slip each byte is, how far it's whole, and where it's at fault."""

from slipwire.codes import MOST, SIZE
from slipwire.errors import Fault
from slipwire.kinds import is_same
from slipwire.masks import mask_of
from slipwire.reading import Reader
from slipwire.slips import slip_at, with_mask


def report(codes, *, masks, most=MOST):
    """The list of spans (at, word, many) of all bytes that are read."""
    reader = Reader(masks, most=most)
    spans = []
    for at, byte in enumerate(codes):
        word = reader.next_part()
        reader.put([byte])
        if reader.how_far() == at:
            break
        # Each slip begins with its head, so a word that stands twice is one part going on.
        if len(spans) > 0 and spans[-1][1] == word:
            spans[-1] = (spans[-1][0], word, spans[-1][2] + 1)
        else:
            spans.append((at, word, 1))
    return spans


def shows_report(codes, thing, *, masks, most=MOST):
    """Whether a thing is the report of these codes."""
    return is_same(thing, report(codes, masks=masks, most=most))


def fault_of(codes, *, masks, most=MOST):
    """The pair (code, at) of the first fault, None where there is none."""
    reader = Reader(masks, most=most)
    reader.put(codes)
    return reader.fault()


def shows_fault(codes, thing, *, masks, most=MOST):
    """Whether a thing is the pair (code, at) of the fault of these codes."""
    told = fault_of(codes, masks=masks, most=most)
    return told is not None and is_same(thing, told)


def whole_to(codes, *, masks, most=MOST):
    """How many of the first bytes are whole slips behind which no letter is begun."""
    reader = Reader(masks, most=most)
    far = 0
    for byte in codes:
        reader.put([byte])
        if reader.fault() is not None:
            break
        if reader.next_part() == "head" and len(reader.begun()) == 0:
            far = reader.how_far()
    return far


def remasked(codes, mask, *, masks, most=MOST):
    """The codes of the same slips, masked by their numbers where they weren't, unmasked where they were."""
    told = []
    for number, slip in enumerate(slips_read(codes, masks, most)):
        told += with_mask(slip, None if masks else mask_of(mask, number)).codes()
    return told


def slips_read(codes, masks, most):
    """The Slips that a Reader reads; refused with Fault where it's at fault, or where codes end within a slip."""
    reader = Reader(masks, most=most)
    reader.put(codes)
    wrong = reader.fault()
    if wrong is not None:
        raise Fault(wrong[0], wrong[1])
    slips = []
    at = 0
    while at < reader.how_far():
        told = slip_at(codes, at, masks=masks)
        if told is None:
            raise Fault(SIZE, len(codes))
        slip, at = told
        slips.append(slip)
    return slips

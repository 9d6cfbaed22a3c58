"""Letters cut in slips, and slips joined to letters."""

from slipwire.codes import EVERY
from slipwire.errors import BadLetter, NoSlip
from slipwire.kinds import are_codes
from slipwire.reading import Reader
from slipwire.signs import are_signs, words_bytes
from slipwire.slips import Slip, with_mask
from slipwire.sorts import BYTES, MORE, WORDS


def slips_for(talk, word, data, *, sizes=(), every=EVERY):
    """The list of Slips, not masked, of a letter: its bytes in pieces of sizes, then of every."""
    wrong = wrong_letter_part(word, data)
    if wrong is not None:
        raise BadLetter(wrong)
    first = WORDS if word == "words" else BYTES
    codes = words_bytes(data) if word == "words" else list(data)
    pieces = pieces_of(codes, sizes, every)
    final = len(pieces) - 1
    return [Slip(MORE if place > 0 else first, talk, piece, last=place == final)
            for place, piece in enumerate(pieces)]


def wrong_letter_part(word, data):
    """The word of the first of these that no letter can have, None where there is none."""
    if word not in ("words", "bytes"):
        return "word"
    fits = are_signs(data) if word == "words" else are_codes(data)
    return None if fits else "data"


def pieces_of(codes, sizes, every):
    pieces = []
    at = 0
    for size in sizes:
        if at >= len(codes):
            break
        pieces.append(codes[at:at + size])
        at += size
    while at < len(codes):
        pieces.append(codes[at:at + every])
        at += every
    # A letter without bytes goes, too.
    return pieces if len(pieces) > 0 else [[]]


def joined_in(slips):
    """The list of letters (talk, word, data) that Slips bring, masked or not; refused with NoSlip."""
    # No letter can have more bytes than all slips have, so none is too great.
    reader = Reader(False, most=sum([len(slip.data) for slip in slips]))
    letters = []
    for number, slip in enumerate(slips):
        events = reader.put(with_mask(slip, None).codes())
        if reader.fault() is not None:
            raise NoSlip(number)
        letters += [event[1:] for event in events if event[0] == "letter"]
    return letters

"""The ends of talks, as slips."""

from slipwire.codes import is_fault
from slipwire.contents import GREATEST_CODE
from slipwire.errors import BadEnd
from slipwire.kinds import is_number
from slipwire.signs import are_signs, words_bytes
from slipwire.slips import Slip
from slipwire.sorts import ENDING

# How many bytes words may have: a control has at most 120, and the code's two stand ahead of them.
GREATEST_WORDS = 118


def end_slip(talk, code, words):
    """The end of that code and those words: one of code 0 is without data."""
    data = [] if code == 0 else [0, code] + words_bytes(words)
    return Slip(ENDING, talk, data)


def closing_slip(talk, code, words):
    """The end by which a talk is closed; refused with BadEnd where it can't be closed so."""
    if not is_closing_code(code):
        raise BadEnd("code")
    if not are_closing_words(code, words):
        raise BadEnd("words")
    return end_slip(talk, code, words)


def is_closing_code(thing):
    return is_number(thing) and 0 <= thing <= GREATEST_CODE and not is_fault(thing)


def are_closing_words(code, thing):
    greatest = 0 if code == 0 else GREATEST_WORDS
    return are_signs(thing) and len(words_bytes(thing)) <= greatest

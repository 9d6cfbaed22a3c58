"""The sorts of slips, and the head and the talk by which a slip begins."""

from slipwire.codes import HEAD, SIZE, TALK
from slipwire.errors import Fault
from slipwire.sizes import size_at

MORE = 0
WORDS = 1
BYTES = 2
ENDING = 8
BELL = 9
ECHO = 10

SORT_WORDS = {0: "more", 1: "words", 2: "bytes", 8: "end", 9: "bell", 10: "echo"}

# What a head has more than its sort.
MASKED = 16
LAST = 32

GREATEST_HEAD = 63
GREATEST_TALK = 31
GREATEST_CONTROL = 120


def sort_of(word):
    """The sort of that word, None where there is none."""
    for sort, named in SORT_WORDS.items():
        if named == word:
            return sort
    return None


def is_control(sort):
    return sort >= ENDING


def sort_in(head):
    return head % 16


def is_last_in(head):
    return (head & LAST) > 0


def is_masked_in(head):
    return (head & MASKED) > 0


def can_be_head(head, masks):
    """Whether a slip can begin with this byte, where slips come masked or not as masks tells."""
    sort = sort_in(head)
    if head > GREATEST_HEAD or sort not in SORT_WORDS:
        return False
    if is_control(sort) and not is_last_in(head):
        return False
    return is_masked_in(head) == masks


def front_at(codes, at, masks):
    """The pair (size, behind) of the slip whose head is the byte at, None where codes end ahead of its size's end.

    Refused with Fault at the first byte of head, talk and size at which it can't go on.
    """
    if at >= len(codes):
        return None
    if not can_be_head(codes[at], masks):
        raise Fault(HEAD, at)
    if at + 1 >= len(codes):
        return None
    if codes[at + 1] > GREATEST_TALK:
        raise Fault(TALK, at + 1)
    if at + 2 >= len(codes):
        return None
    if is_control(sort_in(codes[at])) and codes[at + 2] > GREATEST_CONTROL:
        raise Fault(SIZE, at + 2)
    return size_at(codes, at + 2)

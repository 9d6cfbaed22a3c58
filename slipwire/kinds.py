"""What kind of thing a value is, asked by several files."""


def is_number(thing):
    # True and False are whole numbers to Python, but never to this program.
    return isinstance(thing, int) and not isinstance(thing, bool)


def is_byte(thing):
    return is_number(thing) and 0 <= thing <= 255


def are_codes(thing):
    """Whether a thing may be handed in as codes: a list or a tuple of bytes."""
    return isinstance(thing, (list, tuple)) and all([is_byte(part) for part in thing])

"""What kind of thing a value is, asked by several files."""


def is_number(thing):
    # True and False are whole numbers to Python, but never to this program.
    return isinstance(thing, int) and not isinstance(thing, bool)


def is_byte(thing):
    return is_number(thing) and 0 <= thing <= 255

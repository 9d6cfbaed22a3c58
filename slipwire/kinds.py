"""What kind of thing a value is, asked by several files."""


def is_number(thing):
    # True and False are whole numbers to Python, but never to this program.
    return isinstance(thing, int) and not isinstance(thing, bool)


def is_byte(thing):
    return is_number(thing) and 0 <= thing <= 255


def are_codes(thing):
    """Whether a thing may be handed in as codes: a list or a tuple of bytes."""
    return isinstance(thing, (list, tuple)) and all([is_byte(part) for part in thing])


def is_same(thing, told):
    """Whether a thing is what is told, made of numbers, texts, lists and tuples, in kind, too."""
    if isinstance(told, list):
        return isinstance(thing, list) and are_same(thing, told)
    if isinstance(told, tuple):
        return isinstance(thing, tuple) and are_same(thing, told)
    # To Python, True is 1.
    return not isinstance(thing, bool) and thing == told


def are_same(things, told):
    return len(things) == len(told) and all([is_same(thing, part) for thing, part in zip(things, told)])

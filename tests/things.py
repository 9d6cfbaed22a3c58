"""Things made of numbers, True, False, None, texts, lists and tuples, at most six deep."""

ATOMS = [0, 1, 4, 9, 10, 13, 16, 17, 255, 256, -1, -10, 2 ** 24 - 1, 2 ** 70, True, False, None,
         "", "a", "10", "abcd", "(1, 2, 3, 4)", "None"]


def wraps(thing):
    return [[thing], (thing,), [thing, thing], (thing, thing), (thing, thing, thing, thing),
            [thing, thing, thing, thing], (thing, 1, 2, 3), (1, 2, 3, thing), [1, 2, 3, thing]]


def nested(thing, deep):
    """The thing within that many lists and tuples, by turns, the outermost a tuple and a list."""
    rows = []
    for first in (0, 1):
        inner = thing
        for at in range(deep):
            inner = (inner,) if (at + first) % 2 else [inner]
        rows.append(inner)
    return rows


def things():
    rows = list(ATOMS) + [[], (), [[]], ((),), [()], ([],)]
    for atom in ATOMS:
        rows += wraps(atom)
    for inner in [(1, 2, 3, 4), [1, 2, 3, 4], 12, True, None, "x", ()]:
        rows += wraps(inner)
        for deep in range(1, 6):
            rows += nested(inner, deep)
    return rows


def same(one, other):
    """Whether two things are alike in kind, too: 1 isn't True, a list isn't a tuple."""
    if type(one) is not type(other):
        return False
    if isinstance(one, (list, tuple)):
        return len(one) == len(other) and all(same(a, b) for a, b in zip(one, other))
    return one == other

"""Slips and rows of bytes, drawn by chance, for tests that compare two readings of them."""

from plain import as_utf8, slip_row

ODD_BYTES = [0, 1, 2, 3, 8, 9, 10, 16, 31, 32, 33, 34, 40, 63, 64, 120, 121, 128, 160, 194, 226, 237, 249, 250, 251,
             252, 255]
SIGNS = [65, 127, 128, 2047, 2048, 8364, 55_295, 57_344, 65_535]


def any_data(draw, word):
    if word == "bytes":
        return [draw.randrange(256) for _ in range(draw.choice([0, 0, 1, 2, 3, 9]))]
    return as_utf8([draw.choice(SIGNS) for _ in range(draw.randrange(4))])


def any_end(draw):
    return draw.choice([[], [0, 1], [0, draw.choice([9, 17, 199])], [0, 1] + any_data(draw, "words"),
                        [0, draw.randrange(10, 17)]])


def any_slips(draw, talks):
    """Slips (kind, talk, data, last) of letters by turns, and of controls between; mostly such as can come."""
    left, slips = {}, []
    for _ in range(draw.randrange(1, 14)):
        talk = draw.choice(talks)
        if draw.random() < 0.2:
            kind = draw.choice([8, 9, 10])
            slips.append((kind, talk, any_end(draw) if kind == 8 else any_data(draw, "bytes"), True))
            continue
        kind = 0
        if talk not in left:
            kind = draw.choice([1, 2])
            left[talk] = any_data(draw, "words" if kind == 1 else "bytes")
        many = draw.randrange(len(left[talk]) + 1)
        last = draw.random() < 0.3
        if last:
            many = len(left[talk])
        slips.append((kind, talk, left[talk][:many], last))
        left[talk] = left[talk][many:]
        if last:
            del left[talk]
    return slips


def any_codes(draw, masks):
    codes = []
    for kind, talk, data, last in any_slips(draw, draw.sample(range(32), draw.randrange(1, 4))):
        mask = [draw.randrange(256) for _ in range(4)] if masks else None
        codes += slip_row(kind, talk, data, last=last, mask=mask)
    return codes


def bent(draw, codes):
    """The codes with some bytes changed, put between, or left out."""
    codes = list(codes)
    for _ in range(draw.choice([0, 1, 1, 2])):
        at = draw.randrange(len(codes) + 1)
        new = [draw.choice(ODD_BYTES + [draw.randrange(256)]) for _ in range(draw.randrange(2))]
        codes[at:at + draw.randrange(2)] = new
    return codes


def pieces_of(draw, codes):
    at = 0
    while at < len(codes):
        many = draw.choice([0, 1, 1, 2, 5, 20])
        yield codes[at:at + many]
        at += many

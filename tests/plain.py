"""The writing of signs and slips, and their reading, done once more by other means, to compare the program with."""


def as_utf8(words):
    return list("".join(map(chr, words)).encode("utf-8"))


def all_signs():
    return [sign for sign in range(65_536) if not 55_296 <= sign <= 57_343]


WHOLE = {tuple(as_utf8([sign])) for sign in all_signs()}
BEGINNINGS = {row[:many] for row in WHOLE for many in range(1, len(row) + 1)}


def fault_in(codes):
    """Where codes can't go on as the bytes of any signs, None where they are whole."""
    begun = ()
    for at, byte in enumerate(codes):
        begun += (byte,)
        if begun not in BEGINNINGS:
            return at
        if begun in WHOLE:
            begun = ()
    return None if begun == () else len(codes)


def size_row(size):
    if size < 250:
        return [size]
    return [250, *size.to_bytes(2, "big")] if size < 2 ** 16 else [251, *size.to_bytes(3, "big")]


def slip_row(kind, talk, data=(), *, last=True, mask=None):
    """The bytes of a slip, whether or not there can be such a one."""
    row = [kind | 16 * (mask is not None) | 32 * last, talk, *size_row(len(data)), *(mask or ())]
    return row + [byte ^ (mask or (0,) * 4)[place % 4] for place, byte in enumerate(data)]


MASK = (200, 7, 0, 255)


def rows(*slips, masks=False):
    """The bytes of slips, each told as (kind, talk, data, last), the last ones of these left out or not."""
    codes = []
    for number, (kind, talk, *rest) in enumerate(slips):
        data, last = (rest + [(), True][len(rest):])
        mask = tuple((byte + number) % 256 for byte in MASK) if masks else None
        codes += slip_row(kind, talk, data, last=last, mask=mask)
    return codes


class Plain:
    """What a Reader should tell of codes, read slip by slip; of each, all faults are gathered, and the first goes."""

    def __init__(self, codes, masks, most):
        self.codes, self.masks, self.most = codes, masks, most
        self.events, self.fault, self.far, self.letters, self.ended = [], None, 0, {}, []
        while self.fault is None and self.far < len(codes) and self.one_slip():
            pass

    def begun(self):
        return sorted(set(self.letters) - set(self.ended))

    def one_slip(self):
        """Whether there may be more behind it."""
        at, codes = self.far, self.codes
        faults = self.faults_at(at)
        if faults:
            place, _, code = min(faults)
            self.fault, self.far = (code, place), place + 1
            self.events.append(("fault", code, place))
            return False
        size = self.size_at(at)
        behind = None if size is None else self.body_at(at) + size
        if behind is None or behind > len(codes):
            self.far = len(codes)
            return False
        self.far = behind
        return self.tell(codes[at] % 16, codes[at + 1], self.data_at(at), codes[at] & 32)

    def size_at(self, at):
        """The size of the slip at that byte, None where it isn't there as a whole."""
        first = self.codes[at + 2:at + 3]
        if first and first[0] < 250:
            return first[0]
        rest = self.codes[at + 3:self.body_at(at) - 4 * self.masks] if first else []
        return int.from_bytes(bytes(rest), "big") if first and len(rest) == first[0] - 248 else None

    def body_at(self, at):
        return at + 3 + {250: 2, 251: 3}.get(self.codes[at + 2], 0) + 4 * self.masks

    def data_at(self, at):
        """As much of the data of the slip at that byte as there is."""
        body = self.body_at(at)
        data = self.codes[body:body + self.size_at(at)]
        mask = self.codes[body - 4:body] if self.masks else [0] * 4
        return [byte ^ mask[place % 4] for place, byte in enumerate(data)]

    def faults_at(self, at):
        """Those of the slip at that byte that its bytes show: (place, which goes first at one place, code)."""
        codes, many = self.codes, len(self.codes)
        head = codes[at]
        sort, control = head % 16, head % 16 > 7
        if head > 63 or sort in (3, 4, 5, 6, 7, 11, 12, 13, 14, 15) or bool(head & 16) != self.masks:
            return [(at, 0, 10)]
        if control and not head & 32:
            return [(at, 0, 10)]
        faults = []
        if at + 1 < many:
            talk = codes[at + 1]
            faults += [(at + 1, 0, 11)] if talk > 31 else []
            faults += [(at + 1, 1, 13)] if talk in self.ended else []
            faults += [(at + 1, 1, 13)] if not control and (sort == 0) != (talk in self.begun()) else []
        if at + 2 < many:
            first, rest = codes[at + 2], codes[at + 3:at + 5]
            faults += [(at + 2, 0, 12)] if first > (120 if control else 251) else []
            faults += [(at + 3, 0, 12)] if first == 251 and rest[:1] == [0] else []
            faults += [(at + 4, 0, 12)] if first == 250 and rest[:1] == [0] and len(rest) == 2 and rest[1] < 250 else []
        if not faults and self.size_at(at) is not None:
            faults += self.faults_of_data(at, sort, codes[at + 1])
        return faults

    def faults_of_data(self, at, sort, talk):
        size, body, data = self.size_at(at), self.body_at(at), self.data_at(at)
        ahead = self.letters[talk][1] if sort == 0 else []
        size_end = body - 1 - 4 * self.masks
        faults = []
        if sort < 8 and len(ahead) + size > self.most:
            faults.append((size_end, 2, 15))
        if sort == 8:
            faults += [(size_end, 3, 16)] if size == 1 else []
            faults += [(body, 3, 16)] if data[:1] not in ([], [0]) else []
            faults += [(body + 1, 3, 16)] if data[1:2] and not 0 < data[1] < 200 else []
            ahead, data, body = [], data[2:], body + 2
        elif sort in (2, 9, 10) or sort == 0 and self.letters[talk][0] == "bytes":
            return faults
        place = fault_in(ahead + data)
        whole_to = len(ahead) + len(data)
        if place is not None and place < whole_to:
            faults.append((body + place - len(ahead), 4, 14))
        behind = self.body_at(at) + size
        if place == whole_to and self.codes[at] & 32 and behind <= len(self.codes):
            faults.append((behind - 1, 4, 14))
        return faults

    def tell(self, sort, talk, data, last):
        if sort == 8:
            code, words = (data or [0, 0])[1], bytes(data[2:]).decode("utf-8")
            self.events.append(("end", talk, code, [ord(sign) for sign in words]))
            self.ended.append(talk)
            return code not in range(10, 17)
        if sort > 8:
            self.events.append(("bell" if sort == 9 else "echo", talk, data))
            return True
        word, ahead = self.letters.pop(talk) if sort == 0 else ("words" if sort == 1 else "bytes", [])
        if not last:
            self.letters[talk] = (word, ahead + data)
        elif word == "bytes":
            self.events.append(("letter", talk, word, ahead + data))
        else:
            self.events.append(("letter", talk, word, [ord(sign) for sign in bytes(ahead + data).decode("utf-8")]))
        return True

"""Signs, and the words that are made of them, as bytes."""

from slipwire.codes import SIGNS
from slipwire.errors import Fault
from slipwire.kinds import is_number


def is_sign(thing):
    return is_number(thing) and (0 <= thing <= 55295 or 57344 <= thing <= 65535)


def are_signs(thing):
    """Whether a thing may be handed in as words: a list or a tuple of signs."""
    return isinstance(thing, (list, tuple)) and all([is_sign(part) for part in thing])


def is_words(thing):
    """Whether a thing is a list of signs."""
    return isinstance(thing, list) and are_signs(thing)


def sign_bytes(sign):
    if sign < 128:
        return [sign]
    if sign < 2048:
        return [192 + sign // 64, 128 + sign % 64]
    return [224 + sign // 4096, 128 + sign // 64 % 64, 128 + sign % 64]


def words_bytes(words):
    """The bytes by which words are written."""
    told = []
    for sign in words:
        told += sign_bytes(sign)
    return told


def words_in(codes):
    """The words that are written by these codes; refused with Fault at the first byte at which it can't go on."""
    signs = Signs()
    for byte in codes:
        signs.put(byte)
    if not signs.is_whole():
        raise Fault(SIGNS, len(codes))
    return signs.words()


def can_stand(begun, byte):
    """Whether a byte can stand behind those of a sign that is begun, or begin one where there are none."""
    if begun == []:
        return byte < 128 or 194 <= byte <= 239
    if begun == [224]:
        return 160 <= byte <= 191
    if begun == [237]:
        return 128 <= byte <= 159
    return 128 <= byte <= 191


def how_long(first):
    """How many bytes a sign has that begins with this one."""
    if first < 128:
        return 1
    return 2 if first < 224 else 3


def sign_of(parts):
    """The sign that these bytes write."""
    if len(parts) == 1:
        return parts[0]
    if len(parts) == 2:
        return (parts[0] - 192) * 64 + parts[1] - 128
    return (parts[0] - 224) * 4096 + (parts[1] - 128) * 64 + parts[2] - 128


class Signs:
    """Words as they come, byte by byte."""

    def __init__(self):
        self.signs = []
        self.parts = []
        self.many = 0

    def put(self, byte):
        """The sign that is whole with this byte, None where there's none yet."""
        if not can_stand(self.parts, byte):
            raise Fault(SIGNS, self.many)
        self.many += 1
        self.parts.append(byte)
        if len(self.parts) < how_long(self.parts[0]):
            return None
        sign = sign_of(self.parts)
        self.signs.append(sign)
        self.parts = []
        return sign

    def how_many(self):
        """How many bytes were put."""
        return self.many

    def is_whole(self):
        """Whether no sign is begun."""
        return len(self.parts) == 0

    def words(self):
        """All signs that are whole."""
        return list(self.signs)

    def twin(self):
        """Signs of their own that stand where these do."""
        other = Signs()
        other.signs = list(self.signs)
        other.parts = list(self.parts)
        other.many = self.many
        return other

    def __len__(self):
        return len(self.signs)

    def __eq__(self, other):
        return isinstance(other, Signs) and self.signs == other.signs and self.parts == other.parts

    def __str__(self):
        shown = [str(sign) for sign in self.signs]
        if len(self.parts) > 0:
            shown.append("..")
        return " ".join(shown)

    def __repr__(self):
        return f"Signs({len(self.signs)})"

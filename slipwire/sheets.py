"""The rows of a sheet, read word by word."""

from slipwire.errors import BadRow
from slipwire.figures import number_in, numbers_in
from slipwire.kinds import are_codes
from slipwire.signs import are_signs
from slipwire.sorts import GREATEST_TALK

# Each row that may be written; words in great letters stand for what is read by READS.
FORMS = (
    "send ROLE TALK words SIGNS", "send ROLE TALK bytes CODES", "bell ROLE TALK CODES", "close ROLE TALK NUMBER",
    "go ROLE NUMBER", "come ROLE NUMBER", "run", "bend ROLE NUMBER BYTE", "break", "back",
    "state ROLE TALK", "codes ROLE TALK", "dead ROLE", "fault ROLE", "way ROLE", "deeds",
)


def role_in(word):
    return word if word in ("caller", "keeper") else None


def plain_in(word):
    return number_in(word)


def number_to(greatest, word):
    number = number_in(word)
    return None if number is None or number > greatest else number


def talk_in(word):
    return number_to(GREATEST_TALK, word)


def byte_in(word):
    return number_to(255, word)


def codes_in(word):
    numbers = numbers_in(word)
    return numbers if are_codes(numbers) else None


def signs_in(word):
    numbers = numbers_in(word)
    return numbers if are_signs(numbers) else None


READS = {"ROLE": role_in, "TALK": talk_in, "NUMBER": plain_in, "BYTE": byte_in, "CODES": codes_in, "SIGNS": signs_in}


def rows_in(text):
    """The rows of a sheet, each the list of its values, empty ones passed over; refused with BadRow."""
    rows = []
    for number, row in enumerate(text.split("\n")):
        if row == "":
            continue
        values = values_in(row)
        if values is None:
            raise BadRow(number)
        rows.append(values)
    return rows


def values_in(row):
    """The values of a row by the form in which it is written, None where it's written in none."""
    words = row.split(" ")
    for form in FORMS:
        values = values_by(form.split(" "), words)
        if values is not None:
            return values
    return None


def values_by(parts, words):
    if len(words) != len(parts):
        return None
    values = [value_of(part, word) for part, word in zip(parts, words)]
    return None if None in values else values


def value_of(part, word):
    if part not in READS:
        return word if word == part else None
    read = READS[part]
    return read(word)

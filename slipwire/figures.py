"""Numbers as they are written in texts."""

FIGURES = "0123456789"
MOST_FIGURES = 7


def number_in(word):
    """The number that a word writes in plain figures, None where it isn't so written."""
    if not 1 <= len(word) <= MOST_FIGURES or not all([sign in FIGURES for sign in word]):
        return None
    if word[0] == "0" and len(word) > 1:
        return None
    return int(word)


def numbers_in(word):
    """The numbers that a word writes, parted by commas, `-` of none; None where it isn't so written."""
    if word == "-":
        return []
    numbers = [number_in(part) for part in word.split(",")]
    return None if None in numbers else numbers


def numbers_text(numbers):
    """The numbers parted by commas, `-` of none."""
    return ",".join([str(number) for number in numbers]) if len(numbers) > 0 else "-"

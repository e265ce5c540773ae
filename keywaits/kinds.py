"""Tests of plain values that several modules share."""

LETTERS = "abcdefghijklmnopqrstuvwxyz"
LAST_TICK = 10 ** 18


def is_number(value, least, greatest):
    """Return whether a value is an integer within bounds; True and False are not."""
    return isinstance(value, int) and not isinstance(value, bool) and least <= value <= greatest


def is_word(value, longest):
    """Return whether a value is a string of one to `longest` letters a to z."""
    if not isinstance(value, str) or not 1 <= len(value) <= longest:
        return False
    return all([letter in LETTERS for letter in value])

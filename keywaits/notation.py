"""Notation: key maps and strokes as texts."""

from keywaits.errors import NotationError
from keywaits.kinds import is_word
from keywaits.maps import KeyMap
from keywaits.player import check_strokes

DIGITS = "0123456789"
MOST_DIGITS = 19

# The form of a row is a tuple of its words, with one of these for a word that may be anything of this kind.
NAME = "a-z"
INTEGER = "0-9"
WAIT_ROW = ("wait", INTEGER)
BIND_ROW = ("bind", NAME, NAME, NAME, NAME)
STROKES_ROW = (INTEGER, NAME)


def _is_integer(word):
    if not 1 <= len(word) <= MOST_DIGITS or (word[0] == "0" and word != "0"):
        return False
    return all([digit in DIGITS for digit in word])


def _fits(word, part):
    """Return whether a word is what a part of a form says."""
    if part == NAME:
        return is_word(word, len(word))
    if part == INTEGER:
        return _is_integer(word)
    return word == part


def _check_row(row, words, form):
    """Raise NotationError unless the words of the row with this number have a form."""
    for number, word in enumerate(words):
        if number >= len(form) or not _fits(word, form[number]):
            raise NotationError(row, number)
    if len(words) < len(form):
        raise NotationError(row, len(words))


def _split_rows(text):
    """Return the list of the lists of the words of all rows."""
    if not isinstance(text, str):
        raise NotationError(0, 0)
    return [row.split(" ") for row in text.split("\n")]


def format_map(keymap):
    """Return the text of a key map."""
    rows = [("modes",) + keymap.modes, ("wait", str(keymap.wait))]
    rows.extend([("bind",) + binding for binding in keymap.bindings])
    return "\n".join([" ".join(row) for row in rows])


def parse_map(text):
    """Return the key map of a text."""
    rows = _split_rows(text)
    modes = rows[0][1:]
    _check_row(0, rows[0], ("modes",) + (NAME,) * max(1, len(modes)))
    if len(rows) == 1:
        raise NotationError(1, 0)
    _check_row(1, rows[1], WAIT_ROW)
    for row in range(2, len(rows)):
        _check_row(row, rows[row], BIND_ROW)
    bindings = [tuple(words[1:]) for words in rows[2:]]
    return KeyMap(tuple(modes), int(rows[1][1]), tuple(bindings))


def format_strokes(strokes):
    """Return the text of strokes."""
    check_strokes(strokes)
    pressed = {}
    for tick, key in strokes:
        pressed[tick] = pressed.get(tick, "") + key
    return "\n".join([f"{tick} {pressed[tick]}" for tick in pressed])


def parse_strokes(text):
    """Return the strokes of a text."""
    if text == "":
        return []
    strokes = []
    least = 0
    for row, words in enumerate(_split_rows(text)):
        if not _is_integer(words[0]) or int(words[0]) < least:
            raise NotationError(row, 0)
        _check_row(row, words, STROKES_ROW)
        tick = int(words[0])
        strokes.extend([(tick, key) for key in words[1]])
        least = tick + 1
    check_strokes(strokes)
    return strokes

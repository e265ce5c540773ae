"""Codec: key maps and strokes as bytes."""

from keywaits.errors import DecodeError, InvalidCount
from keywaits.kinds import LAST_TICK, LETTERS, is_number
from keywaits.maps import (
    GREATEST_WAIT,
    LONGEST_NAME,
    MOST_BINDINGS,
    MOST_KEYS_OF_BINDING,
    MOST_MODES,
    KeyMap,
)
from keywaits.player import MOST_STROKES, check_strokes

GREATEST_BYTE = 255
FIRST_BYTE_OF_MAP = 75
FIRST_BYTE_OF_STROKES = 84


def pack_bytes(values):
    """Return the bytes with the values of a list of integers from 0 to 255."""
    if not isinstance(values, list):
        raise InvalidCount("the values are not a list")
    if not all([is_number(value, 0, GREATEST_BYTE) for value in values]):
        raise InvalidCount("a value is not an integer from 0 to 255")
    return bytes(values)


def unpack_bytes(data):
    """Return the list of the values of bytes."""
    return list(data)


def _checksum(values):
    total = 2
    for value in values:
        total = int(6 * total + value) % 247
    return total


def _with_checksum(values):
    return pack_bytes(values + [_checksum(values)])


def _word_values(word):
    return [len(word)] + [LETTERS.index(letter) for letter in word]


def _number_values(number):
    """Return the values of a number: groups of seven bits, the lowest first, 128 added to all but the last."""
    values = []
    left = number
    while left > 127:
        values.append(128 + (left & 127))
        left = left >> 7
    return values + [left]


class Reader:
    """Reads bytes from left to right; each method raises DecodeError at the first byte that is invalid."""

    def __init__(self, data):
        if not isinstance(data, bytes):
            raise DecodeError(0)
        self.offset = 0
        self._data = data

    def read_byte(self, least, greatest):
        """Read a byte with a value within bounds, and return the value."""
        if self.offset == len(self._data) or not least <= self._data[self.offset] <= greatest:
            raise DecodeError(self.offset)
        self.offset += 1
        return self._data[self.offset - 1]

    def read_word(self, longest):
        """Read a word of one to `longest` letters."""
        size = self.read_byte(1, longest)
        return "".join([self.read_letter() for _ in range(size)])

    def read_letter(self):
        """Read a letter."""
        return LETTERS[self.read_byte(0, len(LETTERS) - 1)]

    def read_number(self, greatest):
        """Read a number in groups of seven bits; one that is too great is invalid at its first byte."""
        first = self.offset
        value = self.read_byte(0, GREATEST_BYTE)
        number = value & 127
        shift = 7
        while value > 127:
            # A byte 0 would be the last one, and a number that has several bytes does not end so.
            value = self.read_byte(1, GREATEST_BYTE)
            number = number + ((value & 127) << shift)
            shift += 7
        if number > greatest:
            raise DecodeError(first)
        return number

    def read_end(self):
        """Read the checksum; no byte comes behind it."""
        checksum = _checksum(self._data[:self.offset])
        self.read_byte(checksum, checksum)
        if self.offset < len(self._data):
            raise DecodeError(self.offset)


def encode_map(keymap):
    """Return the bytes of a key map."""
    values = [FIRST_BYTE_OF_MAP, len(keymap.modes)]
    for mode in keymap.modes:
        values.extend(_word_values(mode))
    values.extend([keymap.wait, len(keymap.bindings)])
    for mode, keys, command, target in keymap.bindings:
        values.append(keymap.modes.index(mode))
        values.extend(_word_values(keys) + _word_values(command))
        values.append(keymap.modes.index(target))
    return _with_checksum(values)


def decode_map(data):
    """Return the key map of bytes."""
    reader = Reader(data)
    reader.read_byte(FIRST_BYTE_OF_MAP, FIRST_BYTE_OF_MAP)
    modes = _read_modes(reader)
    wait = reader.read_byte(1, GREATEST_WAIT)
    bindings = _read_bindings(reader, modes)
    reader.read_end()
    return KeyMap(tuple(modes), wait, tuple(bindings))


def _read_modes(reader):
    modes = []
    for _ in range(reader.read_byte(1, MOST_MODES)):
        first = reader.offset
        mode = reader.read_word(LONGEST_NAME)
        if mode in modes:
            raise DecodeError(first)
        modes.append(mode)
    return modes


def _read_bindings(reader, modes):
    bindings = []
    rows = []
    for _ in range(reader.read_byte(0, MOST_BINDINGS)):
        first = reader.offset
        mode = modes[reader.read_byte(0, len(modes) - 1)]
        keys = reader.read_word(MOST_KEYS_OF_BINDING)
        if (mode, keys) in rows:
            raise DecodeError(first)
        rows.append((mode, keys))
        command = reader.read_word(LONGEST_NAME)
        target = modes[reader.read_byte(0, len(modes) - 1)]
        bindings.append((mode, keys, command, target))
    return bindings


def encode_strokes(strokes):
    """Return the bytes of strokes."""
    check_strokes(strokes)
    values = [FIRST_BYTE_OF_STROKES] + _number_values(len(strokes))
    last_tick = 0
    for tick, key in strokes:
        values.extend(_number_values(tick - last_tick))
        values.append(LETTERS.index(key))
        last_tick = tick
    return _with_checksum(values)


def decode_strokes(data):
    """Return the strokes of bytes."""
    reader = Reader(data)
    reader.read_byte(FIRST_BYTE_OF_STROKES, FIRST_BYTE_OF_STROKES)
    strokes = []
    tick = 0
    for _ in range(reader.read_number(MOST_STROKES)):
        tick = tick + reader.read_number(LAST_TICK - tick)
        strokes.append((tick, reader.read_letter()))
    reader.read_end()
    return strokes

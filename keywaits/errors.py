"""The exceptions of the package."""


class MapError(ValueError):
    """The base class of all exceptions of the package."""


class InvalidMap(MapError):
    """A part of a key map ("modes", "wait" or "bindings") is invalid at an index."""

    def __init__(self, part, index):
        super().__init__(f"{part}: item {index} is invalid")
        self.part = part
        self.index = index


class InvalidStrokes(MapError):
    """Strokes are invalid at an index."""

    def __init__(self, index):
        super().__init__(f"stroke {index} is invalid")
        self.index = index


class InvalidTick(MapError):
    """A tick is not an integer of the allowed range."""


class UnknownMode(MapError):
    """A key map does not have a mode."""


class UnknownBinding(MapError):
    """A key map does not have a binding with an index."""

    def __init__(self, index):
        # The index may be anything, even what has no text, such as a number of too many digits.
        super().__init__("there is no such binding")
        self.index = index


class InvalidLength(MapError):
    """Strokes cannot be repeated with a length."""


class InvalidNumber(MapError):
    """A number of repetitions or of an event is not an integer of the allowed range."""


class InvalidGap(MapError):
    """A gap between keys is not an integer of the allowed range."""


class Contradiction(MapError):
    """No wait agrees with what has been observed."""


class TooManyKeys(MapError):
    """Key maps have too many different keys to be compared."""


class InvalidKey(MapError):
    """The argument with an index is not a key."""

    def __init__(self, index):
        super().__init__(f"argument {index} is not a key")
        self.index = index


class InvalidBinding(MapError):
    """A binding is invalid, or a part of it."""


class TooManyBindings(MapError):
    """A key map has no room for another binding."""


class InvalidMode(MapError):
    """A mode is invalid, or there already."""


class TooManyModes(MapError):
    """A key map has no room for another mode."""


class LastMode(MapError):
    """The first mode of a key map cannot be removed."""


class InvalidWait(MapError):
    """A wait is not an integer of the allowed range."""


class InvalidOperation(MapError):
    """The argument with an index is not an operation."""

    def __init__(self, index):
        super().__init__(f"argument {index} is not an operation")
        self.index = index


class NotationError(MapError):
    """A text is wrong at a word of a row."""

    def __init__(self, row, word):
        super().__init__(f"row {row}, word {word} is wrong")
        self.row = row
        self.word = word


class InvalidCount(MapError):
    """Values are not a list of integers that fit into bytes."""


class DecodeError(MapError):
    """Bytes are invalid at an offset."""

    def __init__(self, offset):
        super().__init__(f"the byte at offset {offset} is invalid")
        self.offset = offset


class AlreadyOpen(MapError):
    """A block of a board is entered within another one of the same board."""

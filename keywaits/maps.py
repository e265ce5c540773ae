"""Key maps: modes, a wait and bindings."""

from keywaits.errors import InvalidMap, UnknownBinding
from keywaits.kinds import is_number, is_word

MOST_MODES = 4
GREATEST_WAIT = 99
MOST_BINDINGS = 30
MOST_KEYS_OF_BINDING = 6
LONGEST_NAME = 8


def is_binding(modes, value):
    """Return whether a value is a binding of these modes."""
    if not isinstance(value, tuple) or len(value) != 4:
        return False
    mode, keys, command, target = value
    if mode not in modes or target not in modes:
        return False
    return is_word(keys, MOST_KEYS_OF_BINDING) and is_word(command, LONGEST_NAME)


def check_modes(modes):
    """Raise InvalidMap unless the modes are those of a key map."""
    if not isinstance(modes, tuple) or len(modes) == 0:
        raise InvalidMap("modes", 0)
    for index, mode in enumerate(modes):
        if index >= MOST_MODES or not is_word(mode, LONGEST_NAME) or mode in modes[:index]:
            raise InvalidMap("modes", index)


def check_bindings(modes, bindings):
    """Raise InvalidMap unless the bindings are those of a key map with these modes."""
    if not isinstance(bindings, tuple):
        raise InvalidMap("bindings", 0)
    seen = set()
    for index, binding in enumerate(bindings):
        if index >= MOST_BINDINGS or not is_binding(modes, binding) or binding[:2] in seen:
            raise InvalidMap("bindings", index)
        seen.add(binding[:2])


class KeyMap:
    """Modes, a wait and bindings (mode, keys, command, target). A key map never changes."""

    def __init__(self, modes, wait, bindings):
        check_modes(modes)
        if not is_number(wait, 1, GREATEST_WAIT):
            raise InvalidMap("wait", 0)
        check_bindings(modes, bindings)
        self._modes = modes
        self._wait = wait
        self._bindings = bindings

    def __eq__(self, other):
        return (
            isinstance(other, KeyMap)
            and self._modes == other._modes
            and self._wait == other._wait
            and self._bindings == other._bindings
        )

    # Not called `cls`: these are keys too, and simple(10, cls="clear") must bind them.
    @classmethod
    def simple(own_class, wait, **commands):
        """Return a key map with the single mode "main", in which each keyword is bound to its command."""
        bindings = [("main", keys, commands[keys], "main") for keys in commands]
        return own_class(("main",), wait, tuple(bindings))

    @property
    def modes(self):
        """The tuple of the modes; the first one is the mode at the start."""
        return self._modes

    @property
    def wait(self):
        """The number of ticks that keys wait."""
        return self._wait

    @property
    def bindings(self):
        """The tuple of the bindings."""
        return self._bindings

    def with_wait(self, wait):
        """Return the same key map with another wait."""
        return KeyMap(self._modes, wait, self._bindings)


def check_index(keymap, index):
    """Raise UnknownBinding unless a key map has a binding with this number."""
    if not is_number(index, 0, len(keymap.bindings) - 1):
        raise UnknownBinding(index)


def reachable_modes(keymap):
    """Return the list of the modes in which a key map can come to be, in the order of the modes."""
    reached = {keymap.modes[0]: True}
    # A round reaches at least one more mode if there is one to reach, so a round for each mode is enough.
    for _ in keymap.modes:
        for binding in keymap.bindings:
            if binding[0] in reached:
                reached[binding[3]] = True
    return [mode for mode in keymap.modes if mode in reached]

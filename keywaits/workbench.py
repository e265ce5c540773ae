"""Workbenches: key maps that can be changed."""

from keywaits.errors import (
    InvalidBinding,
    InvalidMode,
    InvalidOperation,
    InvalidWait,
    LastMode,
    TooManyBindings,
    TooManyModes,
    UnknownMode,
)
from keywaits.kinds import is_number, is_word
from keywaits.maps import GREATEST_WAIT, LONGEST_NAME, MOST_BINDINGS, MOST_MODES, KeyMap, check_index, is_binding
from keywaits.past import Past

# The places of these parts in a binding.
COMMAND = 2
TARGET = 3

# How each operation changes a key map: each of these functions takes the key map and the arguments of the
# operation, and returns the result of the operation and the changed key map.


def _with_bindings(keymap, bindings):
    return KeyMap(keymap.modes, keymap.wait, bindings)


def _add_binding(keymap, binding):
    rows = [other[:2] for other in keymap.bindings]
    if not is_binding(keymap.modes, binding) or binding[:2] in rows:
        raise InvalidBinding("this is not a binding of the modes, or there is one with its mode and keys")
    if len(rows) == MOST_BINDINGS:
        raise TooManyBindings("the key map has 30 bindings already")
    return len(rows), _with_bindings(keymap, keymap.bindings + (binding,))


def _remove_binding(keymap, index):
    check_index(keymap, index)
    bindings = keymap.bindings
    return bindings[index], _with_bindings(keymap, bindings[:index] + bindings[index + 1:])


def _change_part(keymap, index, place, part):
    check_index(keymap, index)
    bindings = keymap.bindings
    binding = bindings[index]
    changed = binding[:place] + (part,) + binding[place + 1:]
    if not is_binding(keymap.modes, changed):
        raise InvalidBinding("a binding cannot have this part")
    return binding[place], _with_bindings(keymap, bindings[:index] + (changed,) + bindings[index + 1:])


def _change_command(keymap, index, command):
    return _change_part(keymap, index, COMMAND, command)


def _change_target(keymap, index, target):
    return _change_part(keymap, index, TARGET, target)


def _add_mode(keymap, mode):
    if not is_word(mode, LONGEST_NAME) or mode in keymap.modes:
        raise InvalidMode("this is not a string of one to eight letters a to z, or it is a mode already")
    if len(keymap.modes) == MOST_MODES:
        raise TooManyModes("the key map has four modes already")
    return len(keymap.modes) + 1, KeyMap(keymap.modes + (mode,), keymap.wait, keymap.bindings)


def _remove_mode(keymap, mode):
    if mode not in keymap.modes:
        raise UnknownMode("the key map does not have this mode")
    if mode == keymap.modes[0]:
        raise LastMode("the first mode cannot be removed")
    modes = [other for other in keymap.modes if other != mode]
    removed = [binding for binding in keymap.bindings if mode in (binding[0], binding[TARGET])]
    left = [binding for binding in keymap.bindings if binding not in removed]
    return removed, KeyMap(tuple(modes), keymap.wait, tuple(left))


def _set_wait(keymap, wait):
    if not is_number(wait, 1, GREATEST_WAIT):
        raise InvalidWait("the wait is not an integer from 1 to 99")
    return keymap.wait, keymap.with_wait(wait)


CHANGES = {
    "add_binding": _add_binding,
    "remove_binding": _remove_binding,
    "change_command": _change_command,
    "change_target": _change_target,
    "add_mode": _add_mode,
    "remove_mode": _remove_mode,
    "set_wait": _set_wait,
}
NUMBERS_OF_ARGUMENTS = {
    "add_binding": 1,
    "remove_binding": 1,
    "change_command": 2,
    "change_target": 2,
    "add_mode": 1,
    "remove_mode": 1,
    "set_wait": 1,
}


def _is_operation(value):
    if not isinstance(value, tuple) or len(value) == 0 or not isinstance(value[0], str):
        return False
    return len(value) - 1 == NUMBERS_OF_ARGUMENTS.get(value[0])


def _execute(keymap, operation):
    """Return the result of an operation and the changed key map."""
    name, *arguments = operation
    change = CHANGES[name]
    return change(keymap, *arguments)


class Workbench:
    """A key map that can be changed, by operations that can be undone."""

    def __init__(self, keymap):
        # Its states are tuples of the operation, None at the beginning, and the key map after it.
        self._past = Past((None, keymap))

    @property
    def present_map(self):
        """The key map."""
        return self._past.states[-1][1]

    @property
    def history(self):
        """The list of the operations in effect: tuples of the name of an operation and its arguments."""
        return [operation for operation, _ in self._past.states[1:]]

    def versions(self):
        """Yield the key maps at the beginning and after each operation in effect."""
        for _, keymap in list(self._past.states):
            yield keymap

    def add_binding(self, binding):
        """Add a binding at the end, and return its number."""
        return self.apply(("add_binding", binding))[0]

    def remove_binding(self, index):
        """Remove the binding with a number, and return it."""
        return self.apply(("remove_binding", index))[0]

    def change_command(self, index, command):
        """Change the command of the binding with a number, and return the former one."""
        return self.apply(("change_command", index, command))[0]

    def change_target(self, index, target):
        """Change the target of the binding with a number, and return the former one."""
        return self.apply(("change_target", index, target))[0]

    def add_mode(self, mode):
        """Add a mode at the end, and return how many there are."""
        return self.apply(("add_mode", mode))[0]

    def remove_mode(self, mode):
        """Remove a mode and all bindings with it as mode or target, and return the list of these."""
        return self.apply(("remove_mode", mode))[0]

    def set_wait(self, wait):
        """Change the wait, and return the former one."""
        return self.apply(("set_wait", wait))[0]

    def undo(self):
        """Revert the last operation in effect; return whether there was one."""
        return self._past.step_back()

    def redo(self):
        """Repeat the operation that was reverted last; return whether there was one."""
        return self._past.step_forward()

    def apply(self, *operations):
        """Execute operations, tuples of a name and arguments, all or none; return the list of their results."""
        for index, operation in enumerate(operations):
            if not _is_operation(operation):
                raise InvalidOperation(index)
        keymap = self.present_map
        states = []
        results = []
        for operation in operations:
            result, keymap = _execute(keymap, operation)
            states.append((operation, keymap))
            results.append(result)
        # Nothing has changed up to here, so an error of an operation leaves everything as it was.
        for state in states:
            self._past.go_on(state)
        return results

    @classmethod
    def replay(cls, keymap, operations):
        """Return a workbench after a list of operations."""
        if not isinstance(operations, list):
            raise InvalidOperation(0)
        workbench = cls(keymap)
        workbench.apply(*operations)
        return workbench

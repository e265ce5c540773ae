"""What several tests share: a check of exceptions, and a player that follows the document word by word."""

import itertools
import random
import unittest

from keywaits.maps import KeyMap

# One of each kind that invalid arguments may have, and none of them a part of a key map or strokes.
ODD_VALUES = ((), (1, 2), [], ["a"], "", "A", 0, -1, 10 ** 30, True, False, None)


class Checks(unittest.TestCase):
    def check_raises(self, error, attributes, call, *arguments, **keywords):
        """Check that a call raises exactly this class of error, with these attributes."""
        with self.assertRaises(error) as caught:
            call(*arguments, **keywords)
        self.assertIs(error, caught.exception.__class__)
        self.assertEqual(attributes, vars(caught.exception))


class PlainPlayer:
    """Lets every tick come, one after another. So the ticks must be small."""

    def __init__(self, keymap):
        self.keymap = keymap
        self.mode = keymap.modes[0]
        self.waiting = ""
        self.fed = 0
        self.events = []

    def play(self, strokes):
        last = strokes[-1][0] if strokes else 0
        for tick in range(last + 6 * 99 + 1):
            self.live(tick, [key for pressed, key in strokes if pressed == tick])
        return self.events

    def live(self, tick, keys):
        if self.waiting and tick == self.fed + self.keymap.wait:
            self.break_up(tick)
        for key in keys:
            self.feed(tick, key)

    def feed(self, tick, key):
        self.waiting += key
        self.fed = tick
        rows = [keys for mode, keys, _, _ in self.keymap.bindings if mode == self.mode]
        if not any(keys.startswith(self.waiting) and keys != self.waiting for keys in rows):
            self.break_up(tick)

    def break_up(self, tick):
        fitting = [b for b in self.keymap.bindings if b[0] == self.mode and self.waiting.startswith(b[1])]
        if fitting:
            _, keys, command, self.mode = max(fitting, key=lambda binding: len(binding[1]))
            self.events.append(("command", tick, command))
            behind = self.waiting[len(keys):]
        else:
            self.events.append(("lost", tick, self.waiting[0]))
            behind = self.waiting[1:]
        self.waiting = ""
        for key in behind:
            self.feed(tick, key)


def chance_map(dice, keys, longest, most, waits=(1, 2, 3), modes=("m", "n")):
    """Return a key map by chance, with rows of some keys up to a length."""
    rows = {}
    for _ in range(dice.randint(1, most)):
        row = "".join(dice.choice(keys) for _ in range(dice.randint(1, longest)))
        rows[(dice.choice(modes), row)] = (dice.choice(("x", "y")), dice.choice(modes))
    return KeyMap(modes, dice.choice(waits), tuple(place + rows[place] for place in rows))


def changed_map(dice, keymap):
    """Return a key map that differs from another one in one place, or in nothing that matters."""
    bindings = list(keymap.bindings)
    number = dice.randrange(len(bindings))
    mode, keys, command, target = bindings[number]
    change = dice.randrange(5)
    if change == 0:
        return keymap.with_wait(keymap.wait + 1)
    if change == 1:
        bindings[number] = (mode, keys, "z", target)
    elif change == 2:
        bindings[number] = (mode, keys, command, dice.choice(keymap.modes))
    elif change == 3:
        del bindings[number]
    else:
        dice.shuffle(bindings)
    return KeyMap(keymap.modes, keymap.wait, tuple(bindings))


def all_strokes(keys, number, longest_pause):
    """Yield all strokes with a number of keys and no longer pauses, in list order."""
    choices = [(pause, key) for pause in range(longest_pause + 1) for key in keys]
    for row in itertools.product(choices, repeat=number):
        tick, strokes = 0, []
        for pause, key in row:
            tick += pause
            strokes.append((tick, key))
        yield strokes


def new_dice(seed):
    """Return a source of chance that is the same in every run."""
    return random.Random(seed)

"""Playing: the events, commands, states and delays that strokes lead to."""

from keywaits.errors import InvalidStrokes, InvalidTick
from keywaits.kinds import LAST_TICK, is_number, is_word

MOST_STROKES = 300


class Rules:
    """What keys mean in the modes of a key map, whatever the ticks are.

    A state is a tuple of the mode and the string of the waiting keys. A step is a tuple
    ("command", the command, its number of keys) or ("lost", the key, 1).
    """

    def __init__(self, keymap):
        self._bound = {}
        self._begun = {}
        for mode, keys, command, target in keymap.bindings:
            self._bound[(mode, keys)] = (command, target)
            for size in range(1, len(keys)):
                self._begun[(mode, keys[:size])] = True

    def feed(self, state, keys):
        """Feed keys one after another; return the list of the steps and the state after them."""
        mode, waiting = state
        coming = keys
        steps = []
        while coming:
            waiting = waiting + coming[0]
            coming = coming[1:]
            if (mode, waiting) not in self._begun:
                step, mode = self._first_step(mode, waiting)
                steps.append(step)
                # The keys that a step leaves over are fed again before those that were never fed.
                coming = waiting[step[2]:] + coming
                waiting = ""
        return steps, (mode, waiting)

    def break_up(self, state):
        """Break up the waiting keys; return the list of the steps and the state after them."""
        mode, waiting = state
        step, target = self._first_step(mode, waiting)
        steps, after = self.feed((target, ""), waiting[step[2]:])
        return [step] + steps, after

    def _first_step(self, mode, waiting):
        """Return the step with which waiting keys begin to be broken up, and the mode after it."""
        for size in range(len(waiting), 0, -1):
            bound = self._bound.get((mode, waiting[:size]))
            if bound is not None:
                return ("command", bound[0], size), bound[1]
        return ("lost", waiting[0], 1), mode


class Player:
    """A key map that plays keys: its state (see Rules), its fed tick, and all that has happened so far.

    `happened` lists tuples of what happened ("command" or "lost"), the tick, the name and the number of keys.
    """

    def __init__(self, keymap):
        self._rules = Rules(keymap)
        self._pause = keymap.wait
        self.fed_tick = 0
        self.state = (keymap.modes[0], "")
        self.happened = []

    def press(self, tick, key):
        """Let all waits pass that pass by a tick, and feed a key at this tick."""
        self.let_pass(tick)
        steps, self.state = self._rules.feed(self.state, key)
        self._note(tick, steps)

    def let_pass(self, tick):
        """Let all waits pass that pass up to and including a tick."""
        while self.state[1] and self.fed_tick + self._pause <= tick:
            self._pass_wait()

    def let_all_pass(self):
        """Let all waits pass, as after the last key."""
        while self.state[1]:
            self._pass_wait()

    def list_events(self):
        """Return the list of all events (what, tick, name) so far, in order."""
        return [(what, tick, name) for what, tick, name, size in self.happened]

    def _pass_wait(self):
        steps, self.state = self._rules.break_up(self.state)
        self._note(self.fed_tick + self._pause, steps)

    def _note(self, tick, steps):
        # Keys that still wait now were fed, or fed again, at this tick.
        self.fed_tick = tick
        for what, name, size in steps:
            self.happened.append((what, tick, name, size))


def check_strokes(strokes):
    """Raise InvalidStrokes unless the argument is strokes."""
    if not isinstance(strokes, list):
        raise InvalidStrokes(0)
    least = 0
    for index, stroke in enumerate(strokes):
        if index >= MOST_STROKES or not _is_stroke(stroke, least):
            raise InvalidStrokes(index)
        least = stroke[0]


def _is_stroke(value, least):
    if not isinstance(value, tuple) or len(value) != 2:
        return False
    return is_number(value[0], least, LAST_TICK) and is_word(value[1], 1)


def _played(keymap, strokes):
    """Return a player that has played strokes to their end."""
    player = Player(keymap)
    for tick, key in strokes:
        player.press(tick, key)
    player.let_all_pass()
    return player


def play_all(keymap, strokes):
    """Play strokes, of any number; return all that happens, as a Player lists it."""
    return _played(keymap, strokes).happened


def play(keymap, strokes):
    """Return the list of all events (what, tick, name) of strokes, in order."""
    check_strokes(strokes)
    return _played(keymap, strokes).list_events()


def commands_of(keymap, strokes):
    """Yield the commands that strokes fire, in order."""
    for what, _, name in play(keymap, strokes):
        if what == "command":
            yield name


def state_at(keymap, strokes, tick):
    """Return the mode and the waiting keys after all that happens up to and including a tick."""
    check_strokes(strokes)
    if not is_number(tick, 0, LAST_TICK):
        raise InvalidTick("the tick is not an integer from 0 to 10 ** 18")
    player = Player(keymap)
    for pressed, key in strokes:
        if pressed <= tick:
            player.press(pressed, key)
    player.let_pass(tick)
    return player.state


def find_delays(keymap, strokes):
    """Return the list of (command, delay) for all commands that fire, in order."""
    check_strokes(strokes)
    delays = []
    # Keys fire or are lost in the order of the strokes, so counting them finds the last key of a command.
    done = 0
    for what, tick, name, size in play_all(keymap, strokes):
        done += size
        if what == "command":
            delays.append((name, tick - strokes[done - 1][0]))
    return delays

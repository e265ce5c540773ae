"""Delays: how late a command can be at most."""

from keywaits.player import Rules

# The plan for a watched key that cannot be the last one of a command.
NEVER = (-1, ())


class DelaySearch:
    """Looks for the latest command whose last key is a certain waiting key, the watched one.

    A plan is a tuple of the delay of this command and of the keys to press up to it, as tuples (tick, key).
    Ticks are counted from the fed tick.
    """

    def __init__(self, keymap):
        self._rules = Rules(keymap)
        self._pause = keymap.wait
        self._keys = sorted(set("".join([binding[1] for binding in keymap.bindings])))
        self._plans = {}

    def plan(self, state, ahead):
        """Return the plan with the greatest delay if so many waiting keys are ahead of the watched one."""
        asked = (state, ahead)
        if asked not in self._plans:
            self._plans[asked] = self._find_plan(state, ahead)
        return self._plans[asked]

    def _find_plan(self, state, ahead):
        # What a key does is the same at all ticks ahead of the one at which the wait passes: so it comes at the
        # last of them. A key of no binding would only break up, one after another, what waits break up later.
        plans = [self._go_on(self._pause, (), self._rules.break_up(state), ahead)]
        tick = self._pause - 1
        for key in self._keys:
            plans.append(self._go_on(tick, ((tick, key),), self._rules.feed(state, key), ahead))
        return max(plans, key=lambda plan: plan[0])

    def _go_on(self, tick, pressed, outcome, ahead):
        """Return the best plan that begins with an outcome (steps and the state after them) at a tick."""
        steps, after = outcome
        for what, _, size in steps:
            if what == "command" and size == ahead + 1:
                return (tick, pressed)
            ahead = ahead - size
            if ahead < 0:
                return NEVER
        delay, more = self.plan(after, ahead)
        if delay < 0:
            return NEVER
        return (tick + delay, pressed + tuple([(tick + later, key) for later, key in more]))


def _type_keys(keymap, strokes, keys):
    """Return strokes with more keys, which come at one tick, when no other key waits any more."""
    # The strokes before are all the keys of some bindings: at most one wait passes behind each of them.
    tick = strokes[-1][0] + keymap.wait if strokes else 0
    return strokes + [(tick, key) for key in keys]


def _ways_to_modes(keymap):
    """Return a dict from each mode that can be reached to strokes that lead to it."""
    ways = {keymap.modes[0]: []}
    # As in reachable_modes, a round for each mode is enough.
    for _ in keymap.modes:
        for mode, keys, _, target in keymap.bindings:
            if mode in ways and target not in ways:
                ways[target] = _type_keys(keymap, ways[mode], keys)
    return ways


def greatest_delay(keymap):
    """Return the greatest delay that a command can have, and strokes in which a command has it."""
    search = DelaySearch(keymap)
    ways = _ways_to_modes(keymap)
    best = (0, [])
    for mode, keys, _, _ in keymap.bindings:
        if mode in ways:
            for size in range(1, len(keys)):
                # The watched key has just been pressed: it is the last of these, and its delay begins now.
                delay, presses = search.plan((mode, keys[:size]), size - 1)
                if delay > best[0]:
                    strokes = _type_keys(keymap, ways[mode], keys[:size])
                    now = strokes[-1][0]
                    best = (delay, strokes + [(now + tick, key) for tick, key in presses])
    return best

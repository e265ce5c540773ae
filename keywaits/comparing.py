"""Comparison: the first strokes that part two key maps."""

from keywaits.errors import TooManyKeys
from keywaits.player import MOST_STROKES, Rules

MOST_KEYS = 12


class Side:
    """One of two compared key maps: what it tells when a key comes after a pause.

    It tells its events, or only its commands if the comparison is not timed. Ticks are counted from the key
    before: each key is fed at its tick by both key maps, so both count their waits from the same tick.
    """

    def __init__(self, keymap, is_timed):
        self.first_state = (keymap.modes[0], "")
        self._rules = Rules(keymap)
        self._pause = keymap.wait
        self._is_timed = is_timed
        self._answers = {}

    def passings(self, state):
        """Return the list of (tick, steps, state after them) of all waits that pass if no key comes."""
        found = []
        now = state
        tick = 0
        while now[1]:
            tick += self._pause
            steps, now = self._rules.break_up(now)
            found.append((tick, steps, now))
        return found

    def answer(self, state, pause, key):
        """Return what is told up to and at a key, what is told later if it is the last, and the state after it."""
        asked = (state, pause, key)
        if asked not in self._answers:
            self._answers[asked] = self._find_answer(state, pause, key)
        return self._answers[asked]

    def _find_answer(self, state, pause, key):
        told = []
        before_key = state
        for tick, steps, after in self.passings(state):
            if tick <= pause:
                told.extend(self._tell(tick, steps))
                before_key = after
        steps_at_key, behind_key = self._rules.feed(before_key, key)
        told.extend(self._tell(pause, steps_at_key))
        later = []
        for tick, steps, _ in self.passings(behind_key):
            later.extend(self._tell(pause + tick, steps))
        return tuple(told), tuple(later), behind_key

    def _tell(self, tick, steps):
        if self._is_timed:
            return [(what, tick, name) for what, name, size in steps]
        return [name for what, name, size in steps if what == "command"]


class Comparison:
    """Two key maps that get the same strokes.

    A place is a tuple of the states of both after strokes that do not part them, and of what each has told
    that the other has not told yet. Whether more strokes part them depends on the place alone.
    """

    def __init__(self, one, other, is_timed):
        self._one = Side(one, is_timed)
        self._other = Side(other, is_timed)
        self.first_place = (self._one.first_state, self._other.first_state, (), ())

    def pauses(self, place):
        """Return the ascending list of the least pauses before the next key that differ in effect."""
        passings = self._one.passings(place[0]) + self._other.passings(place[1])
        return sorted(set([0] + [passing[0] for passing in passings]))

    def follow(self, place, pause, key):
        """Return the place after a key that comes after a pause, or None if this parts the key maps."""
        one_state, other_state, one_told, other_told = place
        one_more, one_later, one_after = self._one.answer(one_state, pause, key)
        other_more, other_later, other_after = self._other.answer(other_state, pause, key)
        one_told = one_told + one_more
        other_told = other_told + other_more
        if one_told + one_later != other_told + other_later:
            return None
        both = min(len(one_told), len(other_told))
        return (one_after, other_after, one_told[both:], other_told[both:])


def _keys_of_both(one, other):
    """Return the ascending list of the keys of both key maps; raise TooManyKeys."""
    found = {}
    for binding in one.bindings + other.bindings:
        for key in binding[1]:
            found[key] = True
    if len(found) > MOST_KEYS:
        raise TooManyKeys("the key maps have more than twelve different keys")
    return sorted(found)


def _longer(strokes, pause, key):
    """Return strokes with one more key, which comes after a pause."""
    last_tick = strokes[-1][0] if strokes else 0
    return strokes + [(last_tick + pause, key)]


def first_parting(one, other, *, is_timed=True):
    """Return the first strokes that part two key maps, or None if there are none."""
    # A key of neither key map only breaks up what waits, as a long pause does: no strokes with the fewest
    # keys contain one. Places are reached in list order, so the first way to a place is the one to keep.
    keys = _keys_of_both(one, other)
    comparison = Comparison(one, other, is_timed)
    queue = [(comparison.first_place, [])]
    seen = {comparison.first_place: True}
    at = 0
    while at < len(queue) and len(queue[at][1]) < MOST_STROKES:
        place, strokes = queue[at]
        at += 1
        for pause in comparison.pauses(place):
            for key in keys:
                reached = comparison.follow(place, pause, key)
                if reached is None:
                    return _longer(strokes, pause, key)
                if reached not in seen:
                    seen[reached] = True
                    queue.append((reached, _longer(strokes, pause, key)))
    return None


def are_alike(one, other, *, is_timed=True):
    """Return whether no strokes part two key maps."""
    return first_parting(one, other, is_timed=is_timed) is None

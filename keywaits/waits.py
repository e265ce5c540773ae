"""Waits: those that suit a typist, and those that explain what has been observed."""

from keywaits.comparing import first_parting
from keywaits.errors import Contradiction, InvalidGap, UnknownBinding
from keywaits.kinds import is_number
from keywaits.maps import GREATEST_WAIT, check_index
from keywaits.player import check_strokes, commands_of, play, play_all

GREATEST_GAP = 99


def _check_wanted(keymap, wanted):
    if not isinstance(wanted, list):
        raise UnknownBinding(wanted)
    for index in wanted:
        check_index(keymap, index)


def _check_gap(gap):
    if not is_number(gap, 0, GREATEST_GAP):
        raise InvalidGap("the gap is not an integer from 0 to 99")


def _typed_strokes(bindings, inner, outer):
    strokes = []
    for binding in bindings:
        gap = outer
        for key in binding[1]:
            tick = strokes[-1][0] + gap if strokes else 0
            strokes.append((tick, key))
            gap = inner
    return strokes


def good_waits(keymap, wanted, inner, outer):
    """Return the ascending list of all waits with which typing some bindings fires exactly their commands."""
    _check_wanted(keymap, wanted)
    _check_gap(inner)
    _check_gap(outer)
    bindings = [keymap.bindings[index] for index in wanted]
    strokes = _typed_strokes(bindings, inner, outer)
    steps = [("command", binding[2]) for binding in bindings]
    good = []
    for wait in range(1, GREATEST_WAIT + 1):
        happened = play_all(keymap.with_wait(wait), strokes)
        if [(what, name) for what, _, name, _ in happened] == steps:
            good.append(wait)
    return good


def _copy_observation(observation):
    """Return an observation with lists of its own."""
    return tuple([list(part) if isinstance(part, list) else part for part in observation])


class HiddenWait:
    """A key map whose wait is not known, and what has been observed of it."""

    def __init__(self, keymap):
        self._keymap = keymap
        self._candidates = list(range(1, GREATEST_WAIT + 1))
        self._observations = []

    def see(self, strokes, events):
        """Record strokes and the list of all their events; return the number of candidates that remain."""
        check_strokes(strokes)
        fitting = [wait for wait in self._candidates if play(self._keymap.with_wait(wait), strokes) == events]
        return self._accept(fitting, ("see", strokes, events))

    def see_commands(self, strokes, *commands):
        """Record strokes and all their commands; return the number of candidates that remain."""
        check_strokes(strokes)
        fitting = []
        for wait in self._candidates:
            keymap = self._keymap.with_wait(wait)
            fired = list(commands_of(keymap, strokes))
            if fired == list(commands):
                fitting.append(wait)
        return self._accept(fitting, ("see_commands", strokes) + commands)

    def _accept(self, fitting, observation):
        if not fitting:
            raise Contradiction("no wait explains all that has been observed")
        self._candidates = fitting
        self._observations.append(_copy_observation(observation))
        return len(fitting)

    @property
    def candidates(self):
        """The ascending list of the waits that explain all that has been observed."""
        return list(self._candidates)

    @property
    def history(self):
        """The list of the accepted observations, in order."""
        return [_copy_observation(observation) for observation in self._observations]

    @classmethod
    def from_log(cls, keymap, *observations):
        """Return a hidden wait after observations."""
        hidden = cls(keymap)
        for what, *arguments in observations:
            if what == "see":
                hidden.see(*arguments)
            else:
                hidden.see_commands(*arguments)
        return hidden

    def telling_strokes(self):
        """Return the first strokes that part the least and the greatest candidate, or None."""
        least = self._keymap.with_wait(self._candidates[0])
        greatest = self._keymap.with_wait(self._candidates[-1])
        return first_parting(least, greatest)

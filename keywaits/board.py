"""Boards: key maps that are used live."""

from keywaits.errors import AlreadyOpen, InvalidKey, InvalidTick
from keywaits.kinds import LAST_TICK, is_number, is_word
from keywaits.past import Past
from keywaits.player import Player, check_strokes


class Moment:
    """How a board is right after a call, and the strokes and events that the call added."""

    def __init__(self, tick, player, strokes):
        self.tick = tick
        self.state = player.state
        self.fed_tick = player.fed_tick
        self.strokes = strokes
        self.events = player.list_events()


class Board:
    """A key map that is used live. As a context manager it is, behind the block, as it was before."""

    def __init__(self, keymap):
        self._keymap = keymap
        self._past = Past(Moment(0, Player(keymap), []))
        # The past to which the board returns at the end of a block, or None outside of blocks.
        self._kept = None

    @property
    def board_map(self):
        """The key map."""
        return self._keymap

    @property
    def now(self):
        """The tick of the board."""
        return self._past.states[-1].tick

    @property
    def mode_now(self):
        """The mode."""
        return self._past.states[-1].state[0]

    @property
    def waiting_keys(self):
        """The string of the keys that wait."""
        return self._past.states[-1].state[1]

    @property
    def all_strokes(self):
        """The list of all strokes so far."""
        return [stroke for moment in self._past.states for stroke in moment.strokes]

    @property
    def all_events(self):
        """The list of all events so far."""
        return [event for moment in self._past.states for event in moment.events]

    def press(self, tick, *keys):
        """Let all waits pass that pass by a tick, feed keys at this tick, and return the list of the events."""
        if not is_number(tick, self.now, LAST_TICK):
            raise InvalidTick("the tick is not an integer from the tick of the board to 10 ** 18")
        for index, key in enumerate(keys):
            if not is_word(key, 1):
                raise InvalidKey(index)
        player = self._player_now()
        player.let_pass(tick)
        for key in keys:
            player.press(tick, key)
        return self._go_on(tick, player, [(tick, key) for key in keys])

    def finish(self):
        """Let all waits pass, as after the last key, and return the list of the events."""
        player = self._player_now()
        player.let_all_pass()
        # The last event comes at the tick at which the last wait passes, and that is the fed tick then.
        return self._go_on(max(self.now, player.fed_tick), player, [])

    def upcoming(self):
        """Yield the events that come if no more keys are pressed; the board stays as it is."""
        player = self._player_now()
        player.let_all_pass()
        yield from player.list_events()

    def undo(self):
        """Take back the last call of press or finish in effect; return whether there was one."""
        return self._past.step_back()

    def redo(self):
        """Repeat the call that was taken back last; return whether there was one."""
        return self._past.step_forward()

    def __enter__(self):
        if self._kept is not None:
            raise AlreadyOpen("the board is in a block already")
        self._kept = self._past.copied()
        return self

    def __exit__(self, kind, value, trace):
        self._past = self._kept
        self._kept = None

    def probe(self, tick, *keys):
        """Return the list of the events that pressing keys would cause; the board stays as it is."""
        with self:
            return self.press(tick, *keys)

    @classmethod
    def replay(cls, keymap, strokes):
        """Return a board on which each key of strokes has been pressed by a call of its own."""
        check_strokes(strokes)
        board = cls(keymap)
        for tick, key in strokes:
            board.press(tick, key)
        return board

    def _player_now(self):
        """Return a player that goes on where the board is."""
        moment = self._past.states[-1]
        player = Player(self._keymap)
        player.state = moment.state
        player.fed_tick = moment.fed_tick
        return player

    def _go_on(self, tick, player, strokes):
        """Go on to a tick, as a player has done; return the list of the events."""
        moment = Moment(tick, player, strokes)
        self._past.go_on(moment)
        return list(moment.events)

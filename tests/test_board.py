import copy
import types
import unittest

from helper import ODD_VALUES, Checks, PlainPlayer, chance_map, new_dice
from keywaits.board import Board
from keywaits.errors import AlreadyOpen, InvalidKey, InvalidStrokes, InvalidTick
from keywaits.maps import KeyMap
from keywaits.player import play, state_at

KEYMAP = KeyMap(
    ("main", "ins"),
    10,
    (("main", "a", "one", "main"), ("main", "ab", "two", "ins"), ("ins", "x", "esc", "main")),
)
# Keys that are fed again wait again: one wait passes after the other.
LONG = KeyMap.simple(10, a="go", abc="find", bx="be", c="stop")
LAST = 10 ** 18


def state_of(board):
    """Return all that can be read of a board, and what would come."""
    return (
        board.board_map, board.now, board.mode_now, board.waiting_keys, board.all_strokes, board.all_events,
        list(board.upcoming()),
    )


def steps_of(board):
    """Return what a board would be after each of its calls, as undo and redo show it."""
    board = copy.deepcopy(board)
    redone = []
    while board.redo():
        redone.append(state_of(board))
    states = [state_of(board)]
    while board.undo():
        states.append(state_of(board))
    return redone, states


class ExamplesTest(Checks):
    def test_press(self):
        board = Board(KEYMAP)
        found = [board.press(0, "a"), board.press(5, "b"), board.mode_now, board.press(6, "x")]
        self.assertEqual([[], [("command", 5, "two")], "ins", [("command", 6, "esc")]], found)

    def test_finish(self):
        board = Board(KEYMAP)
        found = [board.press(0, "a"), board.press(20, "a"), board.waiting_keys, board.finish(), board.now]
        self.assertEqual([[], [("command", 10, "one")], "a", [("command", 30, "one")], 30], found)

    def test_invalid_key(self):
        self.check_raises(InvalidKey, {"index": 1}, Board(KEYMAP).press, 3, "a", "A")

    def test_upcoming(self):
        board = Board(KEYMAP)
        board.press(0, "a")
        self.assertEqual([[("command", 10, "one")], []], [list(board.upcoming()), board.all_events])

    def test_undo_and_redo(self):
        board = Board(KEYMAP)
        board.press(0, "a")
        found = [board.undo(), board.undo(), board.redo(), board.all_strokes]
        self.assertEqual([True, False, True, [(0, "a")]], found)

    def test_probe(self):
        board = Board(KEYMAP)
        found = [board.probe(0, "a", "b"), board.mode_now, board.all_events]
        self.assertEqual([[("command", 0, "two")], "main", []], found)

    def test_replay(self):
        self.assertEqual("ins", Board.replay(KEYMAP, [(0, "a"), (5, "b")]).mode_now)


class NewBoardTest(unittest.TestCase):
    def test_properties(self):
        board = Board(KEYMAP)
        self.assertIs(KEYMAP, board.board_map)
        self.assertEqual((KEYMAP, 0, "main", "", [], [], []), state_of(board))

    def test_nothing_to_undo(self):
        board = Board(KEYMAP)
        self.assertEqual([False, False], [board.undo(), board.redo()])
        self.assertEqual((KEYMAP, 0, "main", "", [], [], []), state_of(board))

    def test_the_first_mode_of_any_key_map(self):
        self.assertEqual("zz", Board(KeyMap(("zz", "aa"), 5, ())).mode_now)

    def test_boards_do_not_share_anything(self):
        one, other = Board(KEYMAP), Board(KEYMAP)
        one.press(4, "a", "b")
        self.assertEqual((KEYMAP, 0, "main", "", [], [], []), state_of(other))
        self.assertFalse(other.undo())


class PressTest(Checks):
    def test_several_keys(self):
        board = Board(KEYMAP)
        events = board.press(7, "a", "b", "x", "q", "a")
        self.assertEqual([("command", 7, "two"), ("command", 7, "esc"), ("lost", 7, "q")], events)
        self.assertEqual((7, "main", "a"), (board.now, board.mode_now, board.waiting_keys))
        self.assertEqual([(7, "a"), (7, "b"), (7, "x"), (7, "q"), (7, "a")], board.all_strokes)
        self.assertEqual(events, board.all_events)

    def test_no_keys(self):
        board = Board(KEYMAP)
        board.press(2, "a")
        self.assertEqual([], board.press(11))
        self.assertEqual((11, "main", "a", [(2, "a")]), state_of(board)[1:5])
        self.assertEqual([("command", 12, "one")], board.press(13))
        self.assertEqual((13, "main", "", [(2, "a")], [("command", 12, "one")]), state_of(board)[1:6])

    def test_waits_pass_up_to_and_including_the_tick(self):
        for tick, events in ((9, []), (10, [("command", 10, "one")]), (11, [("command", 10, "one")])):
            board = Board(KEYMAP)
            board.press(0, "a")
            self.assertEqual(events, board.press(tick))
            self.assertEqual("" if events else "a", board.waiting_keys)

    def test_a_wait_passes_ahead_of_the_key_at_its_tick(self):
        board = Board(KEYMAP)
        board.press(0, "a")
        self.assertEqual([("command", 10, "one"), ("lost", 10, "b")], board.press(10, "b"))
        board = Board(KEYMAP)
        board.press(0, "a")
        self.assertEqual([("command", 9, "two")], board.press(9, "b"))

    def test_several_waits_pass(self):
        board = Board(LONG)
        self.assertEqual([], board.press(0, "a", "b"))
        self.assertEqual([("command", 10, "go"), ("lost", 20, "b")], board.press(20))

    def test_a_press_without_keys_does_not_move_the_wait(self):
        board = Board(KEYMAP)
        board.press(0, "a")
        for tick in (3, 3, 9):
            self.assertEqual([], board.press(tick))
        self.assertEqual([("command", 10, "one")], list(board.upcoming()))
        board.press(9, "a")
        self.assertEqual([("command", 9, "one"), ("command", 19, "one")], board.all_events + board.finish())

    def test_the_same_tick_again(self):
        board = Board(KEYMAP)
        board.press(4, "a")
        self.assertEqual([("command", 4, "two")], board.press(4, "b"))
        self.assertEqual([(4, "a"), (4, "b")], board.all_strokes)

    def test_invalid_ticks(self):
        board = Board(KEYMAP)
        board.press(5, "a")
        before = steps_of(board)
        for tick in (4, 0, -1, LAST + 1, "6", "a", None, True, False, [6], (6,), ()):
            with self.subTest(tick=tick):
                self.check_raises(InvalidTick, {}, board.press, tick)
                self.check_raises(InvalidTick, {}, board.press, tick, "a")
                self.check_raises(InvalidTick, {}, board.press, tick, "A", None)
        self.assertEqual(before, steps_of(board))

    def test_true_and_false_are_no_ticks(self):
        self.check_raises(InvalidTick, {}, Board(KEYMAP).press, False)
        self.check_raises(InvalidTick, {}, Board(KEYMAP).press, True, "a")

    def test_edges_of_the_range(self):
        board = Board(KEYMAP)
        self.assertEqual([], board.press(0))
        self.assertEqual([], board.press(LAST, "a"))
        self.assertEqual([], board.press(LAST))
        self.assertEqual(LAST, board.now)
        self.check_raises(InvalidTick, {}, board.press, LAST - 1)
        self.check_raises(InvalidTick, {}, board.press, LAST + 1)
        self.assertEqual([("command", LAST, "two")], board.press(LAST, "b"))

    def test_invalid_keys(self):
        board = Board(KEYMAP)
        board.press(5, "a")
        before = steps_of(board)
        for key in ODD_VALUES + ("ab", "{", "`", "1", " ", "\n", ("a",), "\u00e4", "\u0430"):
            with self.subTest(key=key):
                self.check_raises(InvalidKey, {"index": 0}, board.press, 5, key)
                self.check_raises(InvalidKey, {"index": 0}, board.press, 30, key, None)
                self.check_raises(InvalidKey, {"index": 2}, board.press, LAST, "a", "b", key, "c", key)
        self.assertEqual(before, steps_of(board))

    def test_all_letters_are_keys(self):
        board = Board(KeyMap.simple(10))
        letters = "abcdefghijklmnopqrstuvwxyz"
        self.assertEqual([("lost", 1, letter) for letter in letters], board.press(1, *letters))

    def test_no_number_of_strokes_is_too_great(self):
        board = Board(KEYMAP)
        for tick in range(301):
            board.press(tick, "q")
        board.press(301, *("q" * 301))
        self.assertEqual([602, 602], [len(board.all_strokes), len(board.all_events)])


class FinishTest(Checks):
    def test_nothing_waits(self):
        board = Board(KEYMAP)
        self.assertEqual([], board.finish())
        self.assertEqual(0, board.now)
        board.press(7, "q")
        self.assertEqual([], board.finish())
        self.assertEqual(7, board.now)

    def test_the_tick_becomes_that_of_the_last_event(self):
        board = Board(LONG)
        board.press(3, "a", "b")
        self.assertEqual([("command", 13, "go"), ("lost", 23, "b")], board.finish())
        self.assertEqual((23, "main", ""), (board.now, board.mode_now, board.waiting_keys))

    def test_the_tick_does_not_become_less(self):
        board = Board(KEYMAP)
        board.press(0, "a")
        board.press(9, "b")
        board.press(50)
        self.assertEqual([], board.finish())
        self.assertEqual(50, board.now)

    def test_keys_behind_it(self):
        board = Board(KEYMAP)
        board.press(0, "a")
        board.finish()
        self.check_raises(InvalidTick, {}, board.press, 9, "a")
        self.assertEqual([("lost", 10, "b")], board.press(10, "b"))
        self.assertEqual([("command", 10, "one"), ("lost", 10, "b")], board.all_events)

    def test_behind_the_last_tick(self):
        board = Board(KEYMAP)
        board.press(LAST, "a")
        self.assertEqual([("command", LAST + 10, "one")], board.finish())
        self.assertEqual(LAST + 10, board.now)
        for tick in (LAST, LAST + 10, LAST + 11):
            self.check_raises(InvalidTick, {}, board.press, tick)
        self.assertEqual([], board.finish())

    def test_modes_change(self):
        keymap = KeyMap(("m", "n"), 5, (("m", "ab", "x", "m"), ("m", "a", "y", "n"), ("n", "bc", "z", "n")))
        board = Board(keymap)
        board.press(0, "a")
        self.assertEqual([("command", 5, "y")], board.finish())
        self.assertEqual("n", board.mode_now)


class UpcomingTest(unittest.TestCase):
    def test_it_is_a_generator(self):
        self.assertIsInstance(Board(KEYMAP).upcoming(), types.GeneratorType)

    def test_the_board_stays_as_it_is(self):
        board = Board(LONG)
        board.press(3, "a", "b")
        before = steps_of(board)
        for _ in range(2):
            self.assertEqual([("command", 13, "go"), ("lost", 23, "b")], list(board.upcoming()))
        self.assertEqual(("command", 13, "go"), next(board.upcoming()))
        self.assertEqual(before, steps_of(board))
        self.assertEqual((3, "ab"), (board.now, board.waiting_keys))

    def test_nothing_comes(self):
        self.assertEqual([], list(Board(KEYMAP).upcoming()))
        board = Board(KEYMAP)
        board.press(0, "a", "b")
        self.assertEqual([], list(board.upcoming()))

    def test_it_does_not_cancel_redo(self):
        board = Board(KEYMAP)
        board.press(0, "a")
        board.undo()
        self.assertEqual([], list(board.upcoming()))
        self.assertTrue(board.redo())

    def test_events_behind_the_last_tick(self):
        board = Board(KEYMAP)
        board.press(LAST, "a")
        self.assertEqual([("command", LAST + 10, "one")], list(board.upcoming()))


class ListsTest(unittest.TestCase):
    def test_lists_are_new_for_each_reading(self):
        board = Board(KEYMAP)
        board.press(0, "a").append(None)
        board.press(5, "b").clear()
        board.finish().append(None)
        board.probe(6, "x").clear()
        expected = ([(0, "a"), (5, "b")], [("command", 5, "two")])
        for _ in range(2):
            self.assertEqual(expected, (board.all_strokes, board.all_events))
            board.all_strokes.clear()
            board.all_events.clear()
            list(board.upcoming()).clear()
        board.undo()
        board.undo()
        board.redo()
        self.assertEqual(expected, (board.all_strokes, board.all_events))


class ReplayTest(Checks):
    def test_each_key_by_a_call_of_its_own(self):
        strokes = [(0, "a"), (0, "b"), (4, "x"), (4, "a")]
        board = Board.replay(KEYMAP, strokes)
        self.assertIs(Board, board.__class__)
        self.assertEqual((4, "main", "a", strokes), state_of(board)[1:5])
        for many in (3, 2, 1, 0):
            self.assertTrue(board.undo())
            self.assertEqual(strokes[:many], board.all_strokes)
        self.assertFalse(board.undo())

    def test_not_finished(self):
        board = Board.replay(KEYMAP, [(3, "a")])
        self.assertEqual((3, "main", "a", [(3, "a")], [], [("command", 13, "one")]), state_of(board)[1:])

    def test_no_strokes(self):
        board = Board.replay(KEYMAP, [])
        self.assertEqual((KEYMAP, 0, "main", "", [], [], []), state_of(board))
        self.assertFalse(board.undo())

    def test_invalid_strokes(self):
        for strokes in (None, (), 5, "a", True, ((0, "a"),)):
            self.check_raises(InvalidStrokes, {"index": 0}, Board.replay, KEYMAP, strokes)
        for odd in ODD_VALUES + ((4, "a"), (LAST + 1, "a"), (6, "ab"), (6, "A"), (6, ""), (True, "a"), [6, "a"]):
            self.check_raises(InvalidStrokes, {"index": 1}, Board.replay, KEYMAP, [(5, "a"), odd, (9, "b")])
        self.check_raises(InvalidStrokes, {"index": 300}, Board.replay, KEYMAP, [(1, "a")] * 301)
        self.assertEqual(300, len(Board.replay(KEYMAP, [(1, "a")] * 300).all_strokes))

    def test_strokes_are_neither_modified_nor_kept(self):
        strokes = [(0, "a"), (5, "b")]
        board = Board.replay(KEYMAP, strokes)
        self.assertEqual([(0, "a"), (5, "b")], strokes)
        strokes.clear()
        self.assertEqual([(0, "a"), (5, "b")], board.all_strokes)

    def test_against_play_and_state_at(self):
        dice = new_dice(61)
        for _ in range(200):
            keymap = chance_map(dice, "abc", 4, 8, waits=(1, 2, 5, 9))
            ticks = sorted(dice.randrange(40) for _ in range(dice.randrange(12)))
            strokes = [(tick, dice.choice("abcd")) for tick in ticks]
            board = Board.replay(keymap, strokes)
            last = ticks[-1] if ticks else 0
            self.assertEqual(state_at(keymap, strokes, last), (board.mode_now, board.waiting_keys))
            self.assertEqual(play(keymap, strokes), board.all_events + list(board.upcoming()))
            self.assertEqual(list(board.upcoming()), board.probe(last + 60))
            board.press(last + 3)
            self.assertEqual(state_at(keymap, strokes, last + 3), (board.mode_now, board.waiting_keys))
            board.finish()
            self.assertEqual(play(keymap, strokes), board.all_events)


class UndoTest(Checks):
    def setUp(self):
        self.board = Board(LONG)
        self.states = [state_of(self.board)]
        calls = (
            lambda: self.board.press(0, "a"), lambda: self.board.press(3, "b"), lambda: self.board.press(3),
            lambda: self.board.press(15), lambda: self.board.finish(), lambda: self.board.finish(),
            lambda: self.board.press(30, "c", "b", "a"), lambda: self.board.press(40, "a"),
        )
        for call in calls:
            call()
            self.states.append(state_of(self.board))

    def test_all_calls_back_and_again(self):
        for _ in range(2):
            for state in self.states[-2::-1]:
                self.assertIs(True, self.board.undo())
                self.assertEqual(state, state_of(self.board))
            self.assertIs(False, self.board.undo())
            self.assertEqual(self.states[0], state_of(self.board))
            for state in self.states[1:]:
                self.assertIs(True, self.board.redo())
                self.assertEqual(state, state_of(self.board))
            self.assertIs(False, self.board.redo())
            self.assertEqual(self.states[-1], state_of(self.board))

    def test_the_tick_goes_back(self):
        self.board.undo()
        self.board.undo()
        self.assertEqual(23, self.board.now)
        self.assertEqual([("command", 23, "stop")], self.board.press(23, "c"))

    def test_press_cancels_redo(self):
        self.board.undo()
        self.board.undo()
        self.board.press(50, "c")
        self.assertIs(False, self.board.redo())
        self.assertEqual((50, "main", ""), (self.board.now, self.board.mode_now, self.board.waiting_keys))
        self.assertTrue(self.board.undo())
        self.assertTrue(self.board.redo())
        self.assertFalse(self.board.redo())

    def test_press_without_keys_cancels_redo(self):
        self.board.undo()
        self.assertEqual([], self.board.press(self.board.now))
        self.assertIs(False, self.board.redo())

    def test_finish_cancels_redo(self):
        self.board.undo()
        self.board.undo()
        self.assertEqual([], self.board.finish())
        self.assertIs(False, self.board.redo())

    def test_a_call_that_raises_cancels_nothing(self):
        self.board.undo()
        self.board.undo()
        self.check_raises(InvalidTick, {}, self.board.press, 2, "a")
        self.check_raises(InvalidKey, {"index": 1}, self.board.press, 90, "a", "")
        self.check_raises(InvalidTick, {}, self.board.probe, 2, "a")
        self.check_raises(InvalidKey, {"index": 0}, self.board.probe, 90, "")
        self.assertTrue(self.board.redo())
        self.assertEqual(self.states[-2], state_of(self.board))
        self.assertTrue(self.board.redo())
        self.assertEqual(self.states[-1], state_of(self.board))

    def test_what_reads_cancels_nothing(self):
        self.board.undo()
        state_of(self.board)
        self.board.probe(90, "a")
        Board.replay(LONG, [(0, "a")])
        self.assertTrue(self.board.redo())

    def test_undo_goes_back_only_to_calls_in_effect(self):
        self.board.undo()
        self.board.undo()
        self.board.press(90, "a")
        self.board.undo()
        self.board.undo()
        self.assertEqual(self.states[-4], state_of(self.board))


class BlockTest(Checks):
    def setUp(self):
        self.board = Board(KEYMAP)
        self.board.press(0, "a")
        self.board.press(4, "q")
        self.board.press(6, "a")
        self.board.undo()
        self.before = steps_of(self.board)

    def test_the_board_is_as_before(self):
        with self.board:
            self.board.press(8, "a", "b")
            self.board.press(9, "x")
            self.board.finish()
            self.assertEqual("main", self.board.mode_now)
            self.assertEqual(9, self.board.now)
            self.assertFalse(self.board.redo())
        self.assertEqual(self.before, steps_of(self.board))
        self.assertEqual(4, self.board.now)
        self.assertTrue(self.board.redo())
        self.assertEqual([(0, "a"), (4, "q"), (6, "a")], self.board.all_strokes)

    def test_an_empty_block(self):
        with self.board:
            self.assertEqual(self.before, steps_of(self.board))
        self.assertEqual(self.before, steps_of(self.board))

    def test_undo_within(self):
        with self.board:
            self.assertTrue(self.board.undo())
            self.assertTrue(self.board.undo())
            self.assertFalse(self.board.undo())
            self.assertEqual([], self.board.all_strokes)
            self.board.press(90, "x")
        self.assertEqual(self.before, steps_of(self.board))

    def test_redo_within(self):
        with self.board:
            self.assertTrue(self.board.redo())
            self.assertFalse(self.board.redo())
            self.board.undo()
            self.board.undo()
            self.assertTrue(self.board.redo())
        self.assertEqual(self.before, steps_of(self.board))
        self.assertTrue(self.board.redo())
        self.assertFalse(self.board.redo())

    def test_undo_behind_the_block(self):
        with self.board:
            self.board.press(8, "a", "b")
        self.assertTrue(self.board.undo())
        self.assertEqual([(0, "a")], self.board.all_strokes)

    def test_an_error_within(self):
        class Oops(Exception):
            pass

        with self.assertRaises(Oops):
            with self.board:
                self.board.press(8, "a", "b")
                raise Oops
        self.assertEqual(self.before, steps_of(self.board))
        with self.assertRaises(InvalidKey):
            with self.board:
                self.board.undo()
                self.board.press(8, "a")
                self.board.press(9, "a", "B")
        self.assertEqual(self.before, steps_of(self.board))
        with self.board:
            self.board.press(8)
        self.assertEqual(self.before, steps_of(self.board))

    def test_a_block_that_is_left_early(self):
        for _ in range(2):
            with self.board:
                self.board.press(8)
                continue
        self.assertEqual(self.before, steps_of(self.board))

    def test_a_block_within_a_block(self):
        with self.board:
            self.board.press(8, "a")
            within = steps_of(self.board)
            with self.assertRaises(AlreadyOpen):
                with self.board:
                    self.fail("this block must not be entered")
            self.assertEqual(within, steps_of(self.board))
            self.check_raises(AlreadyOpen, {}, self.board.__enter__)
            self.board.press(9, "b")
            self.assertEqual("ins", self.board.mode_now)
        self.assertEqual(self.before, steps_of(self.board))

    def test_the_error_ends_the_outer_block_if_it_is_not_caught(self):
        with self.assertRaises(AlreadyOpen):
            with self.board:
                self.board.press(8, "a")
                with self.board:
                    pass
        self.assertEqual(self.before, steps_of(self.board))
        with self.board:
            self.board.undo()
        self.assertEqual(self.before, steps_of(self.board))

    def test_blocks_of_two_boards(self):
        other = Board(KEYMAP)
        with self.board:
            with other:
                self.board.press(8, "a")
                other.press(3, "a")
                self.assertEqual([("command", 8, "two")], self.board.press(8, "b"))
            self.assertEqual([0, 8], [other.now, self.board.now])
            other.press(5, "a")
        self.assertEqual(self.before, steps_of(self.board))
        self.assertEqual([(5, "a")], other.all_strokes)

    def test_the_board_of_the_block(self):
        with self.board as held:
            self.assertIs(self.board, held)


class ProbeTest(Checks):
    def test_the_board_is_as_before(self):
        board = Board(KEYMAP)
        board.press(0, "a")
        board.press(2, "a")
        board.undo()
        before = steps_of(board)
        found = [board.probe(12), board.probe(3, "b", "x"), board.probe(0), board.probe(LAST, "a")]
        one = [("command", 10, "one")]
        self.assertEqual([one, [("command", 3, "two"), ("command", 3, "esc")], [], one], found)
        self.assertEqual(before, steps_of(board))

    def test_errors_of_press(self):
        board = Board(KEYMAP)
        board.press(5, "a")
        before = steps_of(board)
        for tick in (4, -1, LAST + 1, None, True, "5", []):
            self.check_raises(InvalidTick, {}, board.probe, tick, "A")
        for key in ("", "ab", "A", 5, None, True, [], ()):
            self.check_raises(InvalidKey, {"index": 1}, board.probe, 5, "a", key)
        self.assertEqual(before, steps_of(board))
        # The blocks of these calls have ended.
        with board:
            pass

    def test_within_a_block(self):
        board = Board(KEYMAP)
        with board:
            board.press(4, "a")
            within = steps_of(board)
            self.check_raises(AlreadyOpen, {}, board.probe, 5, "a")
            self.check_raises(AlreadyOpen, {}, board.probe, 3, "a")
            self.check_raises(AlreadyOpen, {}, board.probe, 5, "A")
            self.check_raises(AlreadyOpen, {}, board.probe, None, None)
            self.assertEqual(within, steps_of(board))
        self.assertEqual([("command", 5, "two")], board.probe(5, "a", "b"))


class PlainBoard:
    """A board of the test's own, which lives all its calls again, tick by tick, to find out how it is."""

    def __init__(self, keymap):
        self.keymap = keymap
        self.calls = []
        self.undone = []

    def lived(self):
        player, now, strokes = PlainPlayer(self.keymap), 0, []
        for call in self.calls:
            if call is None:
                while player.waiting:
                    now += 1
                    player.live(now, [])
            else:
                for tick in range(now + 1, call[0]):
                    player.live(tick, [])
                now = call[0]
                player.live(now, call[1])
                strokes += [(now, key) for key in call[1]]
        return player, now, strokes

    def state(self):
        player, now, strokes = self.lived()
        state = (self.keymap, now, player.mode, player.waiting, strokes, list(player.events))
        many, tick = len(player.events), now
        while player.waiting:
            tick += 1
            player.live(tick, [])
        return state + (player.events[many:],)

    def call(self, call):
        many = len(self.lived()[0].events)
        self.calls = self.calls + [call]
        self.undone = []
        return self.lived()[0].events[many:]

    def undo(self):
        if self.calls:
            self.calls, self.undone = self.calls[:-1], self.undone + [self.calls[-1]]
            return True
        return False

    def redo(self):
        if self.undone:
            self.calls, self.undone = self.calls + [self.undone[-1]], self.undone[:-1]
            return True
        return False


class PlainBoardTest(Checks):
    def act(self, dice, board, plain):
        choice = dice.randrange(10)
        now = board.now
        if choice < 4:
            tick, keys = now + dice.choice((0, 0, 1, 2, 5, 9)), [dice.choice("abcd") for _ in range(dice.randrange(4))]
            self.assertEqual(plain.call((tick, keys)), board.press(tick, *keys))
        elif choice == 4:
            self.assertEqual(plain.call(None), board.finish())
        elif choice < 7:
            self.assertEqual(plain.undo(), board.undo())
        elif choice < 9:
            self.assertEqual(plain.redo(), board.redo())
        elif dice.randrange(2):
            self.check_raises(InvalidTick, {}, board.press, now - 1, "a")
        else:
            self.check_raises(InvalidKey, {"index": 1}, board.press, now + 1, "a", "")

    def test_many_calls(self):
        dice = new_dice(62)
        for _ in range(60):
            keymap = chance_map(dice, "abc", 4, 8, waits=(1, 2, 3, 7))
            board, plain = Board(keymap), PlainBoard(keymap)
            for _ in range(25):
                if dice.randrange(8) == 0:
                    calls, undone = plain.calls, plain.undone
                    with board:
                        for _ in range(dice.randrange(4)):
                            self.act(dice, board, plain)
                        self.assertEqual(plain.state(), state_of(board))
                    plain.calls, plain.undone = calls, undone
                elif dice.randrange(8) == 0:
                    calls, undone = plain.calls, plain.undone
                    tick = board.now + dice.randrange(9)
                    self.assertEqual(plain.call((tick, ["a", "b"])), board.probe(tick, "a", "b"))
                    plain.calls, plain.undone = calls, undone
                else:
                    self.act(dice, board, plain)
                self.assertEqual(plain.state(), state_of(board))

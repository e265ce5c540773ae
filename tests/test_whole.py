"""What DOC.md promises over the whole package, and what its modules do together."""

import copy
import types
import unittest

from helper import Checks, chance_map, new_dice
from keywaits.board import Board
from keywaits.codec import decode_map, decode_strokes, encode_map, encode_strokes, pack_bytes, unpack_bytes
from keywaits.comparing import are_alike, first_parting
from keywaits.delays import greatest_delay
from keywaits.errors import (
    AlreadyOpen, Contradiction, DecodeError, InvalidBinding, InvalidCount, InvalidGap, InvalidKey, InvalidLength,
    InvalidMap, InvalidMode, InvalidNumber, InvalidOperation, InvalidStrokes, InvalidTick, InvalidWait, LastMode,
    NotationError, TooManyKeys, UnknownBinding, UnknownMode,
)
from keywaits.maps import KeyMap, reachable_modes
from keywaits.notation import format_map, format_strokes, parse_map, parse_strokes
from keywaits.player import commands_of, find_delays, play, state_at
from keywaits.repeating import count_repeated, repeated_event
from keywaits.thinning import fewest_to_drop, find_chains, judge_chains, late_pairs, without_bindings
from keywaits.waits import HiddenWait, good_waits
from keywaits.workbench import Workbench

ROWS = (("main", "a", "one", "main"), ("main", "ab", "two", "ins"), ("ins", "x", "esc", "main"))
KEYMAP = KeyMap(("main", "ins"), 10, ROWS)
STROKES = [(0, "a"), (4, "b"), (5, "x"), (5, "a"), (30, "q")]
MANY_KEYS = KeyMap.simple(5, **{letter: "go" for letter in "abcdefghijklm"})
# All functions, with arguments that they accept.
CALLS = (
    (KeyMap, ("main", "ins"), 10, ROWS), (KeyMap.simple, 10), (KEYMAP.with_wait, 5), (reachable_modes, KEYMAP),
    (play, KEYMAP, STROKES), (lambda *arguments: list(commands_of(*arguments)), KEYMAP, STROKES),
    (state_at, KEYMAP, STROKES, 5), (find_delays, KEYMAP, STROKES), (first_parting, KEYMAP, KEYMAP.with_wait(5)),
    (are_alike, KEYMAP, KEYMAP.with_wait(5)), (greatest_delay, KEYMAP), (late_pairs, KEYMAP),
    (fewest_to_drop, KEYMAP), (find_chains, KEYMAP), (judge_chains, KEYMAP, [[0, 1], [2]]),
    (without_bindings, KEYMAP, 0, 2), (count_repeated, KEYMAP, STROKES, 40, 7),
    (repeated_event, KEYMAP, STROKES, 40, 3), (good_waits, KEYMAP, [0, 1, 2], 3, 20),
    (lambda *arguments: HiddenWait.from_log(*arguments).candidates, KEYMAP, ("see_commands", [(0, "a")], "one")),
    (lambda *arguments: Board.replay(*arguments).all_events, KEYMAP, STROKES),
    (lambda *arguments: Workbench.replay(*arguments).history, KEYMAP, [("set_wait", 5), ("remove_mode", "ins")]),
    (format_map, KEYMAP), (parse_map, "modes m\nwait 5\nbind m a b m"), (format_strokes, STROKES),
    (parse_strokes, "3 ab\n5 c"), (pack_bytes, [1, 2, 255]), (unpack_bytes, b"abc"), (encode_map, KEYMAP),
    (decode_map, encode_map(KEYMAP)), (encode_strokes, STROKES), (decode_strokes, encode_strokes(STROKES)),
)
# Functions with arguments of which several are invalid: the first one is told.
INVALID = (
    (InvalidMap, {"part": "modes", "index": 0}, KeyMap, (), 0, ()),
    (InvalidMap, {"part": "wait", "index": 0}, KeyMap, ("m",), 0, None),
    (InvalidMap, {"part": "wait", "index": 0}, lambda: KeyMap.simple(0, A="b")),
    (InvalidStrokes, {"index": 0}, state_at, KEYMAP, None, -1),
    (InvalidStrokes, {"index": 0}, count_repeated, KEYMAP, None, 0, -1),
    (InvalidLength, {}, count_repeated, KEYMAP, [], 0, -1),
    (InvalidStrokes, {"index": 0}, repeated_event, KEYMAP, None, 0, -1),
    (InvalidLength, {}, repeated_event, KEYMAP, [], 0, -1),
    (UnknownBinding, {"index": 3}, good_waits, KEYMAP, [0, 3, 4], -1, -1),
    (InvalidGap, {}, good_waits, KEYMAP, [0], 5, 100),
    (InvalidStrokes, {"index": 0}, HiddenWait(KEYMAP).see, None, None),
    (InvalidStrokes, {"index": 0}, HiddenWait(KEYMAP).see_commands, None, None),
    (UnknownBinding, {"index": 3}, without_bindings, KEYMAP, 0, 3, 4),
    (InvalidTick, {}, Board(KEYMAP).press, -1, "A"),
    (InvalidKey, {"index": 1}, Board(KEYMAP).press, 0, "a", "A", "B"),
    (InvalidTick, {}, Board(KEYMAP).probe, -1, "A"),
    (UnknownBinding, {"index": 3}, Workbench(KEYMAP).change_command, 3, "A"),
    (UnknownBinding, {"index": 3}, Workbench(KEYMAP).change_target, 3, "A"),
    (InvalidOperation, {"index": 1}, Workbench(KEYMAP).apply, ("set_wait", 0), None, None),
)
# Functions that do not take True and False as numbers.
NO_NUMBERS = (
    (InvalidMap, lambda number: KEYMAP.with_wait(number)),
    (InvalidStrokes, lambda number: play(KEYMAP, [(number, "a")])),
    (InvalidTick, lambda number: state_at(KEYMAP, [], number)),
    (UnknownBinding, lambda number: without_bindings(KEYMAP, number)),
    (InvalidLength, lambda number: count_repeated(KEYMAP, [], number, 1)),
    (InvalidNumber, lambda number: count_repeated(KEYMAP, [], 1, number)),
    (InvalidNumber, lambda number: repeated_event(KEYMAP, [], 1, number)),
    (UnknownBinding, lambda number: good_waits(KEYMAP, [number], 1, 1)),
    (InvalidGap, lambda number: good_waits(KEYMAP, [], number, 1)),
    (InvalidGap, lambda number: good_waits(KEYMAP, [], 1, number)),
    (InvalidTick, lambda number: Board(KEYMAP).press(number)),
    (InvalidTick, lambda number: Board(KEYMAP).probe(number)),
    (UnknownBinding, lambda number: Workbench(KEYMAP).remove_binding(number)),
    (UnknownBinding, lambda number: Workbench(KEYMAP).change_command(number, "go")),
    (UnknownBinding, lambda number: Workbench(KEYMAP).change_target(number, "main")),
    (InvalidWait, lambda number: Workbench(KEYMAP).set_wait(number)),
    (InvalidCount, lambda number: pack_bytes([number])),
)


def board_state(board):
    return (
        board.board_map, board.now, board.mode_now, board.waiting_keys, board.all_strokes, board.all_events,
        list(board.upcoming()),
    )


def workbench_state(workbench):
    return workbench.present_map, workbench.history, list(workbench.versions())


def spoil(value):
    """Change a returned list or dict and all that is in it."""
    if isinstance(value, (list, tuple)):
        for item in value:
            spoil(item)
    if isinstance(value, (list, dict)):
        value.clear()
    if isinstance(value, list):
        value.append("spoiled")


class RepeatedCallsTest(unittest.TestCase):
    def test_equal_values_for_equal_arguments(self):
        for call, *arguments in CALLS:
            first = call(*copy.deepcopy(arguments))
            kept = copy.deepcopy(first)
            spoil(first)
            with self.subTest(call=call):
                self.assertEqual(kept, call(*copy.deepcopy(arguments)))

    def test_arguments_are_not_modified(self):
        for call, *arguments in CALLS:
            before = copy.deepcopy(arguments)
            spoil(call(*arguments))
            with self.subTest(call=call):
                self.assertEqual(before, arguments)

    def test_properties(self):
        board, workbench, hidden = Board.replay(KEYMAP, STROKES), Workbench(KEYMAP), HiddenWait(KEYMAP)
        workbench.apply(("set_wait", 5), ("remove_mode", "ins"))
        hidden.see([(0, "a")], [("command", 10, "one")])
        for thing, names in (
            (KEYMAP, ("modes", "wait", "bindings")), (hidden, ("candidates", "history")),
            (board, ("board_map", "now", "mode_now", "waiting_keys", "all_strokes", "all_events")),
            (workbench, ("present_map", "history")),
        ):
            for name in names:
                first = getattr(thing, name)
                kept = copy.deepcopy(first)
                spoil(first)
                with self.subTest(name):
                    self.assertEqual(kept, getattr(thing, name))

    def test_boards_and_workbenches_in_between(self):
        values = [call(*copy.deepcopy(arguments)) for call, *arguments in CALLS]
        board, workbench = Board(KEYMAP), Workbench(KEYMAP)
        with board:
            board.press(3, "a", "b")
            board.finish()
        board.press(8, "a", "x")
        board.undo()
        workbench.apply(("set_wait", 1), ("remove_binding", 0), ("change_target", 0, "main"), ("remove_mode", "ins"))
        workbench.undo()
        for value, (call, *arguments) in zip(values, CALLS):
            self.assertEqual(value, call(*copy.deepcopy(arguments)))
        self.assertEqual((("main", "ins"), 10, ROWS), (KEYMAP.modes, KEYMAP.wait, KEYMAP.bindings))
        self.assertEqual(board_state(Board(KEYMAP)), board_state(Board(KEYMAP)))

    def test_the_same_calls_make_the_same_boards_and_workbenches(self):
        boards, workbenches = [], []
        for _ in range(2):
            board, workbench = Board.replay(KEYMAP, STROKES), Workbench.replay(KEYMAP, [("set_wait", 7)])
            board.undo()
            board.press(31, "a")
            workbench.undo()
            boards.append(board_state(board))
            workbenches.append(workbench_state(workbench))
        self.assertEqual(boards[0], boards[1])
        self.assertEqual(workbenches[0], workbenches[1])


class ArgumentsTest(Checks):
    def test_arguments_are_checked_from_left_to_right(self):
        for error, attributes, call, *arguments in INVALID:
            with self.subTest(error=error, arguments=arguments):
                self.check_raises(error, attributes, call, *arguments)

    def test_true_and_false_are_no_numbers(self):
        for error, call in NO_NUMBERS:
            for value in (True, False):
                with self.subTest(error=error):
                    with self.assertRaises(error):
                        call(value)

    def test_generators_check_when_the_first_value_is_requested(self):
        commands = commands_of(KEYMAP, [(1, "a"), (0, "a")])
        self.assertIsInstance(commands, types.GeneratorType)
        with self.assertRaises(InvalidStrokes) as caught:
            next(commands)
        self.assertEqual(1, caught.exception.index)

    def test_generators_begin_when_the_first_value_is_requested(self):
        board, workbench = Board(KEYMAP), Workbench(KEYMAP)
        events, versions = board.upcoming(), workbench.versions()
        board.press(0, "a")
        workbench.set_wait(5)
        self.assertEqual([("command", 10, "one")], list(events))
        self.assertEqual([KEYMAP, KEYMAP.with_wait(5)], list(versions))


class RaisingCallsTest(Checks):
    """A call that raises changes no state."""

    def test_boards(self):
        board = Board.replay(KEYMAP, STROKES)
        board.undo()
        before = board_state(board)
        self.check_raises(InvalidTick, {}, board.press, 0, "a")
        self.check_raises(InvalidKey, {"index": 2}, board.press, 90, "a", "b", 5)
        self.check_raises(InvalidTick, {}, board.probe, None)
        self.check_raises(InvalidKey, {"index": 0}, board.probe, 90, None)
        with board:
            self.check_raises(AlreadyOpen, {}, board.probe, 90)
            self.assertEqual(before, board_state(board))
        self.assertEqual(before, board_state(board))
        self.assertEqual([True, STROKES], [board.redo(), board.all_strokes])

    def test_workbenches(self):
        workbench = Workbench.replay(KEYMAP, [("set_wait", 7), ("set_wait", 8)])
        workbench.undo()
        before = workbench_state(workbench)
        self.check_raises(InvalidBinding, {}, workbench.add_binding, ROWS[0])
        self.check_raises(UnknownBinding, {"index": 9}, workbench.remove_binding, 9)
        self.check_raises(InvalidBinding, {}, workbench.change_command, 0, "")
        self.check_raises(InvalidMode, {}, workbench.add_mode, "main")
        self.check_raises(UnknownMode, {}, workbench.remove_mode, "vis")
        self.check_raises(LastMode, {}, workbench.remove_mode, "main")
        self.check_raises(InvalidWait, {}, workbench.apply, ("set_wait", 6), ("remove_mode", "ins"), ("set_wait", 0))
        self.check_raises(InvalidOperation, {"index": 1}, workbench.apply, ("set_wait", 6), ("set_wait",))
        self.assertEqual(before, workbench_state(workbench))
        self.assertEqual([True, 8, False], [workbench.redo(), workbench.present_map.wait, workbench.redo()])

    def test_hidden_waits(self):
        hidden = HiddenWait(KEYMAP)
        hidden.see_commands([(0, "a"), (20, "b")], "two")
        before = (hidden.candidates, hidden.history)
        self.check_raises(Contradiction, {}, hidden.see, [(0, "a")], [])
        self.check_raises(InvalidStrokes, {"index": 0}, hidden.see, [(0, "A")], [])
        self.check_raises(Contradiction, {}, hidden.see_commands, [(0, "a")], "two")
        self.check_raises(InvalidStrokes, {"index": 0}, hidden.see_commands, None)
        self.assertEqual(before, (hidden.candidates, hidden.history))
        many = HiddenWait(MANY_KEYS)
        self.check_raises(TooManyKeys, {}, many.telling_strokes)
        self.assertEqual([99, []], [len(many.candidates), many.history])

    def test_functions_that_raise_return_the_same_later(self):
        for call, *arguments in CALLS:
            value = call(*copy.deepcopy(arguments))
            for error, _, failing, *wrong in INVALID:
                with self.assertRaises(error):
                    failing(*wrong)
            self.check_raises(NotationError, {"row": 0, "word": 0}, parse_map, "")
            self.check_raises(DecodeError, {"offset": 0}, decode_map, b"")
            self.assertEqual(value, call(*copy.deepcopy(arguments)))


class KeptArgumentsTest(unittest.TestCase):
    def test_lists_of_strokes_operations_and_values(self):
        strokes, operations, values = list(STROKES), [("set_wait", 7), ("add_mode", "vis")], [1, 2, 3]
        log = ("see", [(0, "a")], [("command", 10, "one")])
        board, workbench = Board.replay(KEYMAP, strokes), Workbench.replay(KEYMAP, operations)
        hidden, data = HiddenWait.from_log(KEYMAP, log), pack_bytes(values)
        for changed in (strokes, operations, values, log[1], log[2]):
            changed.clear()
        self.assertEqual(STROKES, board.all_strokes)
        self.assertEqual([("set_wait", 7), ("add_mode", "vis")], workbench.history)
        self.assertEqual([("see", [(0, "a")], [("command", 10, "one")])], hidden.history)
        self.assertEqual([1, 2, 3], unpack_bytes(data))


class TogetherTest(unittest.TestCase):
    def sessions(self):
        dice = new_dice(95)
        for _ in range(150):
            keymap = chance_map(dice, "abc", 4, 9, waits=(1, 3, 10, 99))
            ticks = sorted(dice.randrange(60) for _ in range(dice.randrange(15)))
            yield dice, keymap, [(tick, dice.choice("abcd")) for tick in ticks]

    def test_boards_with_trials_have_the_events_of_play(self):
        for dice, keymap, strokes in self.sessions():
            board = Board(keymap)
            events = []
            for tick, key in strokes:
                if dice.randrange(2):
                    board.probe(tick + dice.randrange(9), *dice.choice(("", "a", "bca")))
                if dice.randrange(2):
                    board.press(tick + dice.randrange(20), "c", "a")
                    board.finish()
                    self.assertEqual([True, True], [board.undo(), board.undo()])
                if dice.randrange(2):
                    with board:
                        board.undo()
                        board.press(tick + 5, "b")
                        list(board.upcoming())
                events.extend(board.press(tick, key))
                if dice.randrange(2):
                    self.assertEqual([True, True], [board.undo(), board.redo()])
                self.assertEqual(state_at(keymap, board.all_strokes, tick), (board.mode_now, board.waiting_keys))
            upcoming = list(board.upcoming())
            self.assertEqual(upcoming, board.finish())
            self.assertEqual(play(keymap, strokes), events + upcoming)
            self.assertEqual([strokes, events + upcoming], [board.all_strokes, board.all_events])

    def test_texts_and_bytes_play_the_same(self):
        for _, keymap, strokes in self.sessions():
            events = play(keymap, strokes)
            self.assertEqual(events, play(parse_map(format_map(keymap)), parse_strokes(format_strokes(strokes))))
            data = bytes(unpack_bytes(encode_strokes(strokes)))
            self.assertEqual(events, play(decode_map(encode_map(keymap)), decode_strokes(data)))
            self.assertTrue(are_alike(keymap, parse_map(format_map(decode_map(encode_map(keymap))))))

    def test_workbenches_make_key_maps_that_play_like_those_made_at_once(self):
        for _, keymap, strokes in self.sessions():
            workbench = Workbench(KeyMap(keymap.modes, 1, ()))
            workbench.apply(("set_wait", keymap.wait), *[("add_binding", binding) for binding in keymap.bindings])
            self.assertEqual(keymap, workbench.present_map)
            self.assertEqual(play(keymap, strokes), play(workbench.present_map, strokes))
            drop = fewest_to_drop(keymap)
            for index in reversed(drop):
                workbench.remove_binding(index)
            self.assertEqual(without_bindings(keymap, *drop), workbench.present_map)
            self.assertEqual(0, greatest_delay(workbench.present_map)[0])

    def test_a_hidden_wait_is_found_by_a_board(self):
        for _, keymap, _ in self.sessions():
            hidden = HiddenWait(keymap)
            strokes = hidden.telling_strokes()
            while strokes is not None and len(hidden.history) < 9:
                board = Board.replay(keymap, strokes)
                board.finish()
                hidden.see(strokes, board.all_events)
                self.assertIn(keymap.wait, hidden.candidates)
                strokes = hidden.telling_strokes()
            self.assertEqual([keymap.wait] if hidden.history else list(range(1, 100)), hidden.candidates)

import unittest

from helper import ODD_VALUES, Checks, PlainPlayer, chance_map, new_dice
from keywaits.errors import InvalidStrokes, InvalidTick
from keywaits.maps import KeyMap
from keywaits.player import commands_of, find_delays, play, state_at

KEYMAP = KeyMap.simple(10, a="go", abc="find", c="stop")
MODAL = KeyMap(
    ("n", "i"),
    10,
    (
        ("n", "a", "up", "i"),
        ("n", "abc", "top", "n"),
        ("i", "b", "word", "n"),
        ("i", "bc", "line", "i"),
        ("i", "ca", "esc", "n"),
    ),
)
LAST = 10 ** 18


class ExamplesTest(Checks):
    def test_play(self):
        strokes = [(0, "a"), (4, "b"), (9, "c"), (20, "a"), (31, "c")]
        expected = [("command", 9, "find"), ("command", 30, "go"), ("command", 31, "stop")]
        self.assertEqual(expected, play(KEYMAP, strokes))

    def test_play_with_a_lost_key(self):
        expected = [("command", 5, "go"), ("lost", 5, "b"), ("command", 15, "go")]
        self.assertEqual(expected, play(KEYMAP, [(0, "a"), (4, "b"), (5, "a")]))

    def test_play_invalid_strokes(self):
        self.check_raises(InvalidStrokes, {"index": 1}, play, KEYMAP, [(3, "a"), (2, "b")])

    def test_commands_of(self):
        self.assertEqual(["go", "go"], list(commands_of(KEYMAP, [(0, "a"), (4, "b"), (5, "a")])))

    def test_state_at(self):
        strokes = [(0, "a"), (4, "b")]
        states = [state_at(KEYMAP, strokes, 3), state_at(KEYMAP, strokes, 13), state_at(KEYMAP, strokes, 14)]
        self.assertEqual([("main", "a"), ("main", "ab"), ("main", "")], states)

    def test_find_delays(self):
        strokes = [(0, "a"), (4, "b"), (5, "c"), (7, "a")]
        self.assertEqual([("find", 0), ("go", 10)], find_delays(KEYMAP, strokes))


class PlayTest(unittest.TestCase):
    def check(self, keymap, strokes, *events):
        self.assertEqual(list(events), play(keymap, strokes))

    def test_no_strokes(self):
        self.check(KEYMAP, [])

    def test_keys_that_begin_nothing_longer(self):
        self.check(KEYMAP, [(0, "c"), (0, "c"), (1, "x"), (1, "b")],
                   ("command", 0, "stop"), ("command", 0, "stop"), ("lost", 1, "x"), ("lost", 1, "b"))

    def test_keys_at_the_same_tick(self):
        self.check(KEYMAP, [(7, "a"), (7, "b"), (7, "c")], ("command", 7, "find"))

    def test_wait_at_the_tick_of_a_key(self):
        strokes = [(0, "a"), (5, "b"), (15, "c")]
        self.check(KEYMAP, strokes, ("command", 15, "go"), ("lost", 15, "b"), ("command", 15, "stop"))

    def test_wait_one_tick_later_than_a_key(self):
        self.check(KEYMAP, [(0, "a"), (5, "b"), (14, "c")], ("command", 14, "find"))

    def test_wait_one_tick_earlier_than_a_key(self):
        strokes = [(0, "a"), (5, "b"), (16, "c")]
        self.check(KEYMAP, strokes, ("command", 15, "go"), ("lost", 15, "b"), ("command", 16, "stop"))

    def test_each_key_starts_the_wait_again(self):
        keymap = KeyMap.simple(3, abcd="x", a="y")
        self.check(keymap, [(0, "a"), (2, "b"), (4, "c"), (6, "d")], ("command", 6, "x"))
        self.check(keymap, [(0, "a"), (2, "b"), (4, "c"), (7, "d")],
                   ("command", 7, "y"), ("lost", 7, "b"), ("lost", 7, "c"), ("lost", 7, "d"))

    def test_longest_binding_fires(self):
        keymap = KeyMap.simple(5, ab="two", a="one", abcde="five", abc="three")
        self.check(keymap, [(0, "a"), (0, "b"), (0, "c"), (0, "d")], ("command", 5, "three"), ("lost", 5, "d"))
        self.check(keymap, [(0, "a"), (0, "b"), (0, "x")], ("command", 0, "two"), ("lost", 0, "x"))
        self.check(keymap, [(0, "a"), (0, "b")], ("command", 5, "two"))

    def test_all_waiting_keys_are_bound(self):
        self.check(KeyMap.simple(5, ab="two"), [(0, "a"), (2, "b")], ("command", 2, "two"))

    def test_only_the_first_key_is_lost(self):
        keymap = KeyMap.simple(5, abc="x", bd="y")
        self.check(keymap, [(0, "a"), (0, "b"), (3, "d")], ("lost", 3, "a"), ("command", 3, "y"))

    def test_keys_fed_again_wait_from_that_tick(self):
        keymap = KeyMap.simple(5, a="one", abc="x", b="two", bcd="y")
        self.check(keymap, [(0, "a"), (2, "b")], ("command", 7, "one"), ("command", 12, "two"))
        self.check(keymap, [(0, "a"), (2, "b"), (11, "c"), (11, "d")], ("command", 7, "one"), ("command", 11, "y"))
        self.check(keymap, [(0, "a"), (2, "b"), (12, "c")],
                   ("command", 7, "one"), ("command", 12, "two"), ("lost", 12, "c"))

    def test_several_waits_pass_before_a_key(self):
        keymap = KeyMap.simple(2, aaaa="x", a="y")
        self.check(keymap, [(0, "a"), (0, "a"), (0, "a"), (100, "b")],
                   ("command", 2, "y"), ("command", 4, "y"), ("command", 6, "y"), ("lost", 100, "b"))
        self.check(keymap, [(0, "a"), (0, "a"), (0, "a"), (4, "b")],
                   ("command", 2, "y"), ("command", 4, "y"), ("command", 4, "y"), ("lost", 4, "b"))

    def test_keys_behind_are_fed_one_after_another(self):
        # While "ba" is fed again, "b" is lost; what is left, "a", waits before "c" is fed again.
        keymap = KeyMap.simple(9, xbac="long", xbacy="longer", bax="q", ac="yes")
        self.check(keymap, [(0, key) for key in "xbaca"],
                   ("command", 0, "long"), ("lost", 9, "a"))
        keymap = KeyMap.simple(9, xbacy="longer", bax="q", ac="yes")
        self.check(keymap, [(0, key) for key in "xbacz"],
                   ("lost", 0, "x"), ("lost", 0, "b"), ("command", 0, "yes"), ("lost", 0, "z"))

    def test_target_becomes_the_mode(self):
        self.check(MODAL, [(0, "a"), (10, "b"), (15, "a")],
                   ("command", 10, "up"), ("command", 15, "word"), ("command", 25, "up"))
        self.check(MODAL, [(0, "a"), (10, "c"), (11, "a"), (11, "a"), (21, "x")],
                   ("command", 10, "up"), ("command", 11, "esc"), ("command", 21, "up"), ("lost", 21, "x"))

    def test_keys_fed_again_in_another_mode(self):
        # At 4, "up" leads to "i", where "b" begins "bc"; so "b" waits again and "a" breaks it up.
        self.check(MODAL, [(0, "a"), (1, "b"), (4, "a")],
                   ("command", 4, "up"), ("command", 4, "word"), ("command", 14, "up"))
        self.check(MODAL, [(0, "a"), (1, "b"), (12, "c")], ("command", 11, "up"), ("command", 12, "line"))
        self.check(MODAL, [(0, "a"), (1, "b")], ("command", 11, "up"), ("command", 21, "word"))

    def test_lost_keys_leave_the_mode(self):
        self.check(MODAL, [(0, "x"), (0, "b"), (0, "a"), (0, "b"), (0, "c")],
                   ("lost", 0, "x"), ("lost", 0, "b"), ("command", 0, "top"))

    def test_bindings_of_other_modes_do_not_count(self):
        keymap = KeyMap(("m", "n"), 5, (("n", "ab", "x", "n"), ("n", "a", "y", "n")))
        self.check(keymap, [(0, "a"), (0, "b")], ("lost", 0, "a"), ("lost", 0, "b"))

    def test_no_bindings(self):
        self.check(KeyMap.simple(5), [(0, "a"), (3, "a")], ("lost", 0, "a"), ("lost", 3, "a"))

    def test_great_ticks(self):
        self.check(KEYMAP, [(LAST - 1, "a"), (LAST, "b")], ("command", LAST + 10, "go"), ("lost", LAST + 10, "b"))
        self.check(KEYMAP, [(0, "a"), (LAST, "c")], ("command", 10, "go"), ("command", LAST, "stop"))

    def test_300_strokes(self):
        self.check(KEYMAP, [(5, "c")] * 300, *[("command", 5, "stop")] * 300)

    def test_against_the_words_of_the_document(self):
        dice = new_dice(3)
        for _ in range(150):
            keymap = chance_map(dice, "abc", 6, 12, waits=(1, 2, 3, 7), modes=("m", "n", "o"))
            strokes, tick = [], 0
            for _ in range(dice.randint(0, 14)):
                tick += dice.choice((0, 0, 1, 2, keymap.wait, 8))
                strokes.append((tick, dice.choice("aaabbbcx")))
            with self.subTest(bindings=keymap.bindings, wait=keymap.wait, strokes=strokes):
                self.assertEqual(PlainPlayer(keymap).play(strokes), play(keymap, strokes))


class InvalidStrokesTest(Checks):
    def calls(self):
        yield lambda strokes: play(KEYMAP, strokes)
        yield lambda strokes: list(commands_of(KEYMAP, strokes))
        yield lambda strokes: state_at(KEYMAP, strokes, 5)
        yield lambda strokes: find_delays(KEYMAP, strokes)

    def check(self, index, strokes):
        for number, call in enumerate(self.calls()):
            with self.subTest(function=number, strokes=strokes):
                self.check_raises(InvalidStrokes, {"index": index}, call, strokes)

    def test_not_a_list(self):
        for strokes in ((), ((0, "a"),), "", "a", 0, 1, True, False, None):
            self.check(0, strokes)

    def test_not_a_stroke(self):
        items = ((0, "a", 0), (0,), [0, "a"], ("a", 0), "0a", ((0, "a"),))
        for item in items + ODD_VALUES:
            self.check(0, [item])
            self.check(1, [(0, "a"), item, item])

    def test_invalid_tick(self):
        for tick in (-1, LAST + 1, True, False, None, "0", (0,), [0]):
            self.check(0, [(tick, "a"), (0, "A")])
            self.check(2, [(0, "a"), (0, "a"), (tick, "a")])

    def test_invalid_key(self):
        for key in ODD_VALUES + ("ab", "1", " ", "\n", "\u00e9", "\uff41", ("a",)):
            self.check(0, [(0, key), None])
            self.check(2, [(0, "a"), (0, "a"), (0, key)])

    def test_falling_ticks(self):
        self.check(1, [(3, "a"), (2, "a"), (1, "a")])
        self.check(3, [(3, "a"), (3, "a"), (LAST, "a"), (LAST - 1, "a")])

    def test_the_301st(self):
        self.check(300, [(0, "a")] * 301)
        self.check(300, [(0, "a")] * 302)
        self.check(300, [(0, "a")] * 300 + [None])
        self.check(299, [(0, "a")] * 299 + [None] * 2)

    def test_greatest_tick_is_valid(self):
        strokes = [(LAST, "c")]
        self.assertEqual([("command", LAST, "stop")], play(KEYMAP, strokes))


class CommandsOfTest(Checks):
    def test_lost_keys_are_left_out(self):
        self.assertEqual([], list(commands_of(KEYMAP, [(0, "x"), (0, "b")])))
        strokes = [(0, "a"), (1, "b"), (4, "a"), (9, "x")]
        self.assertEqual(["up", "word", "up"], list(commands_of(MODAL, strokes)))

    def test_it_is_a_generator(self):
        commands = commands_of(KEYMAP, [(0, "c"), (0, "a")])
        self.assertEqual("stop", next(commands))
        self.assertEqual("go", next(commands))
        with self.assertRaises(StopIteration):
            next(commands)

    def test_arguments_are_checked_when_the_first_value_is_requested(self):
        commands = commands_of(KEYMAP, [(0, "c"), (0, "C")])
        self.check_raises(InvalidStrokes, {"index": 1}, next, commands)
        strokes = [None]
        commands = commands_of(KEYMAP, strokes)
        strokes[0] = (0, "c")
        self.assertEqual(["stop"], list(commands))

    def test_strokes_are_not_kept(self):
        strokes = [(0, "c"), (1, "c")]
        commands = commands_of(KEYMAP, strokes)
        next(commands)
        strokes.clear()
        self.assertEqual(["stop"], list(commands))


class StateAtTest(Checks):
    def test_around_keys(self):
        strokes = [(3, "a"), (5, "b"), (5, "c"), (6, "a")]
        states = [state_at(KEYMAP, strokes, tick) for tick in (0, 2, 3, 4, 5, 6, 15, 16, LAST)]
        waiting = ["", "", "a", "a", "", "a", "a", "", ""]
        self.assertEqual([("main", keys) for keys in waiting], states)

    def test_around_waits(self):
        strokes = [(0, "a"), (1, "b")]
        states = [state_at(MODAL, strokes, tick) for tick in (0, 1, 10, 11, 12, 20, 21, 22)]
        expected = [("n", "a"), ("n", "ab"), ("n", "ab"), ("i", "b"), ("i", "b"), ("i", "b"), ("n", ""), ("n", "")]
        self.assertEqual(expected, states)

    def test_wait_that_passes_at_the_tick_of_a_key(self):
        self.assertEqual(("i", "c"), state_at(MODAL, [(0, "a"), (10, "c")], 10))
        self.assertEqual(("n", "a"), state_at(MODAL, [(0, "a"), (10, "c")], 9))

    def test_without_strokes(self):
        self.assertEqual(("n", ""), state_at(MODAL, [], 0))
        self.assertEqual(("n", ""), state_at(MODAL, [], LAST))

    def test_great_ticks(self):
        self.assertEqual(("main", "ab"), state_at(KEYMAP, [(LAST, "a"), (LAST, "b")], LAST))
        self.assertEqual(("main", ""), state_at(KEYMAP, [(LAST, "a"), (LAST, "b")], LAST - 1))
        self.assertEqual(("main", ""), state_at(KEYMAP, [(LAST - 10, "a")], LAST))

    def test_invalid_tick(self):
        for tick in (-1, LAST + 1, True, False, None, "5", "", (5,), [5], (), []):
            with self.subTest(tick):
                self.check_raises(InvalidTick, {}, state_at, KEYMAP, [(0, "a")], tick)

    def test_strokes_are_checked_first(self):
        self.check_raises(InvalidStrokes, {"index": 0}, state_at, KEYMAP, None, -1)
        self.check_raises(InvalidStrokes, {"index": 1}, state_at, KEYMAP, [(9, "a"), (8, "a")], True)
        # Strokes behind the tick are checked, too.
        self.check_raises(InvalidStrokes, {"index": 1}, state_at, KEYMAP, [(0, "a"), (9, "A")], 3)

    def test_against_the_words_of_the_document(self):
        dice = new_dice(4)
        for _ in range(60):
            keymap = chance_map(dice, "abc", 4, 8, modes=("m", "n", "o"))
            ticks = sorted(dice.randrange(20) for _ in range(8))
            strokes = [(tick, dice.choice("abc")) for tick in ticks]
            player = PlainPlayer(keymap)
            for tick in range(40):
                player.live(tick, [key for pressed, key in strokes if pressed == tick])
                self.assertEqual((player.mode, player.waiting), state_at(keymap, strokes, tick))


class FindDelaysTest(unittest.TestCase):
    def test_from_the_last_key_of_the_command(self):
        keymap = KeyMap.simple(10, ab="two", abcd="four")
        self.assertEqual([("two", 9)], find_delays(keymap, [(0, "a"), (3, "b"), (4, "c"), (12, "x")]))
        self.assertEqual([("two", 10)], find_delays(keymap, [(0, "a"), (3, "b")]))
        self.assertEqual([("four", 0)], find_delays(keymap, [(0, "a"), (3, "b"), (9, "c"), (18, "d")]))

    def test_behind_lost_keys(self):
        strokes = [(0, "b"), (1, "x"), (2, "a"), (4, "b"), (5, "x"), (6, "a")]
        self.assertEqual([("go", 3), ("go", 10)], find_delays(KEYMAP, strokes))

    def test_keys_fed_again(self):
        keymap = KeyMap.simple(10, aaaa="x", a="y")
        strokes = [(0, "a"), (3, "a"), (6, "a")]
        self.assertEqual([("y", 16), ("y", 23), ("y", 30)], find_delays(keymap, strokes))

    def test_no_commands(self):
        self.assertEqual([], find_delays(KEYMAP, []))
        self.assertEqual([], find_delays(KEYMAP, [(0, "x"), (4, "b")]))

    def test_other_modes(self):
        self.assertEqual([("up", 11), ("word", 20)], find_delays(MODAL, [(0, "a"), (1, "b")]))


class PromisesForAllTest(unittest.TestCase):
    def calls(self):
        yield lambda strokes: play(MODAL, strokes)
        yield lambda strokes: list(commands_of(MODAL, strokes))
        yield lambda strokes: find_delays(MODAL, strokes)
        yield lambda strokes: state_at(MODAL, strokes, 12)

    def test_arguments_are_not_modified_and_answers_are_new(self):
        for number, call in enumerate(self.calls()):
            strokes = [(0, "a"), (1, "b"), (4, "a"), (6, "x")]
            with self.subTest(function=number):
                first = call(strokes)
                self.assertEqual(first, call(list(strokes)))
                if isinstance(first, list):
                    kept = list(first)
                    first.clear()
                    self.assertEqual(kept, call(strokes))
                self.assertEqual([(0, "a"), (1, "b"), (4, "a"), (6, "x")], strokes)

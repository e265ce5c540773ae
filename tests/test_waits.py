import unittest

from helper import ODD_VALUES, Checks, PlainPlayer, chance_map, new_dice
from keywaits.comparing import first_parting
from keywaits.errors import Contradiction, InvalidGap, InvalidMap, InvalidStrokes, TooManyKeys, UnknownBinding
from keywaits.maps import KeyMap
from keywaits.player import commands_of, play
from keywaits.waits import HiddenWait, good_waits

KEYMAP = KeyMap.simple(10, a="go", abc="find", c="stop")
ALL = list(range(1, 100))
TOO_MANY = KeyMap.simple(10, abcdef="x", ghijkl="y", m="z")


def typed(rows, inner, outer):
    """Return the strokes of rows of keys, from the tick 0 on."""
    strokes, tick = [], 0
    for row in rows:
        for number, key in enumerate(row):
            tick += (inner if number else outer) if strokes else 0
            strokes.append((tick, key))
    return strokes


def plain_events(keymap, wait, strokes):
    return PlainPlayer(keymap.with_wait(wait)).play(strokes)


class GoodWaitsTest(Checks):
    def test_example(self):
        self.assertEqual(ALL[3:], good_waits(KEYMAP, [0, 1], 3, 6))

    def test_no_bindings_are_wanted(self):
        self.assertEqual(ALL, good_waits(KEYMAP, [], 0, 0))
        self.assertEqual(ALL, good_waits(KeyMap.simple(9), [], 99, 99))

    def test_a_binding_is_typed_with_the_inner_gap(self):
        self.assertEqual(ALL, good_waits(KEYMAP, [1], 0, 0))
        self.assertEqual(ALL[3:], good_waits(KEYMAP, [1], 3, 0))
        self.assertEqual([99], good_waits(KEYMAP, [1], 98, 0))
        self.assertEqual([], good_waits(KEYMAP, [1], 99, 0))

    def test_a_wait_between_bindings(self):
        # "a" fires before "b" comes only if its wait passes by then.
        keymap = KeyMap.simple(10, a="x", b="y", ab="z")
        self.assertEqual([], good_waits(keymap, [0, 1], 50, 0))
        self.assertEqual([1], good_waits(keymap, [0, 1], 50, 1))
        self.assertEqual(ALL[:40], good_waits(keymap, [0, 1], 50, 40))
        self.assertEqual(ALL, good_waits(keymap, [0, 1], 0, 99))

    def test_a_range_of_waits(self):
        keymap = KeyMap.simple(10, a="x", b="y", ab="z")
        self.assertEqual(ALL[3:20], good_waits(keymap, [2, 0, 1], 3, 20))

    def test_whichever_bindings_fire(self):
        keymap = KeyMap.simple(10, a="x", b="x", ab="x", c="y", ac="x")
        self.assertEqual(ALL[4:], good_waits(keymap, [2], 4, 0))
        # Two times "x", for "a" and "b" as for "ab" and "b".
        keymap = KeyMap.simple(10, aa="x", a="x", aab="y")
        self.assertEqual(ALL[:5], good_waits(keymap, [1, 1], 0, 5))
        keymap = KeyMap.simple(10, ab="x", a="x", b="y", ac="y")
        self.assertEqual(ALL[:7], good_waits(keymap, [1, 2], 0, 7))

    def test_no_other_command_fires(self):
        keymap = KeyMap.simple(10, ab="x", a="x", b="x")
        self.assertEqual(ALL[4:], good_waits(keymap, [0], 4, 0))

    def test_no_key_is_lost(self):
        # "ab" fires "x" alone also if "a" fires and "b" is lost: this is not good.
        keymap = KeyMap.simple(10, ab="x", a="x")
        self.assertEqual(ALL[7:], good_waits(keymap, [0], 7, 0))

    def test_a_binding_given_twice_is_typed_twice(self):
        keymap = KeyMap.simple(10, a="x", aa="y")
        self.assertEqual(ALL, good_waits(keymap, [0], 0, 30))
        self.assertEqual(ALL[:30], good_waits(keymap, [0, 0], 0, 30))
        self.assertEqual([], good_waits(keymap, [0, 0, 0], 0, 0))
        self.assertEqual(ALL[4:], good_waits(keymap, [1, 1], 4, 99))

    def test_the_order_counts(self):
        keymap = KeyMap(("m", "n"), 10, (("m", "a", "x", "n"), ("n", "a", "y", "m"), ("m", "b", "z", "m")))
        self.assertEqual(ALL, good_waits(keymap, [0, 1, 2], 5, 5))
        self.assertEqual([], good_waits(keymap, [1, 0], 5, 5))
        self.assertEqual([], good_waits(keymap, [0, 2], 5, 5))

    def test_greatest_gaps(self):
        self.assertEqual([], good_waits(KEYMAP, [0, 1], 99, 99))
        self.assertEqual(ALL, good_waits(KEYMAP, [0, 2], 99, 99))
        self.assertEqual(ALL, good_waits(KeyMap.simple(10, ab="x", b="y"), [1, 0], 0, 99))

    def test_the_wait_of_the_key_map_does_not_count(self):
        for wait in (1, 2, 99):
            self.assertEqual(ALL[3:], good_waits(KEYMAP.with_wait(wait), [0, 1], 3, 6))

    def test_more_keys_than_strokes_can_have(self):
        self.assertEqual(ALL[2:], good_waits(KEYMAP, [1] * 150, 2, 0))

    def test_unknown_binding(self):
        for odd in (3, -1, 10 ** 30, True, False, None, "0", "", (0,), [0], (), []):
            with self.subTest(odd):
                self.check_raises(UnknownBinding, {"index": odd}, good_waits, KEYMAP, [odd], 0, 0)
                self.check_raises(UnknownBinding, {"index": odd}, good_waits, KEYMAP, [0, 2, odd, 9], 0, 0)
        self.check_raises(UnknownBinding, {"index": 0}, good_waits, KeyMap.simple(9), [0], 0, 0)

    def test_wanted_is_not_a_list(self):
        for odd in ((0, 1), (), "0", "", 0, 1, True, None):
            self.check_raises(UnknownBinding, {"index": odd}, good_waits, KEYMAP, odd, 0, 0)

    def test_invalid_gap(self):
        for odd in (-1, 100, 10 ** 30, True, False, None, "5", "", (5,), [5], (), []):
            with self.subTest(odd):
                self.check_raises(InvalidGap, {}, good_waits, KEYMAP, [0], odd, 0)
                self.check_raises(InvalidGap, {}, good_waits, KEYMAP, [0], 0, odd)
                self.check_raises(InvalidGap, {}, good_waits, KEYMAP, [], odd, odd)

    def test_order_of_exceptions(self):
        self.check_raises(UnknownBinding, {"index": 3}, good_waits, KEYMAP, [3], -1, 100)
        self.check_raises(UnknownBinding, {"index": 3}, good_waits, KEYMAP, [3], 0, None)

    def test_arguments_are_not_modified_and_answers_are_new(self):
        wanted = [0, 1]
        good_waits(KEYMAP, wanted, 3, 6).clear()
        self.assertEqual(ALL[3:], good_waits(KEYMAP, wanted, 3, 6))
        self.assertEqual([0, 1], wanted)

    def test_against_plain_playing_with_each_wait(self):
        dice = new_dice(51)
        found = {}
        for _ in range(40):
            keymap = chance_map(dice, "ab", 3, 5, modes=("m", "n"))
            wanted = [dice.randrange(len(keymap.bindings)) for _ in range(dice.randint(1, 3))]
            inner, outer = dice.choice((0, 1, 5, 98, 99)), dice.choice((0, 1, 5, 60, 99))
            strokes = typed([keymap.bindings[number][1] for number in wanted], inner, outer)
            steps = [("command", keymap.bindings[number][2]) for number in wanted]
            expected = []
            for wait in ALL:
                if [(what, name) for what, _, name in plain_events(keymap, wait, strokes)] == steps:
                    expected.append(wait)
            found[tuple(expected)] = True
            with self.subTest(bindings=keymap.bindings, wanted=wanted, inner=inner, outer=outer):
                self.assertEqual(expected, good_waits(keymap, wanted, inner, outer))
        self.assertGreater(len(found), 3)


class HiddenWaitExamplesTest(Checks):
    def setUp(self):
        self.hidden = HiddenWait(KEYMAP)

    def test_see(self):
        self.assertEqual(1, self.hidden.see([(0, "a")], [("command", 7, "go")]))

    def test_see_what_contradicts(self):
        self.check_raises(Contradiction, {}, self.hidden.see, [(0, "a")], [])

    def test_see_commands(self):
        self.assertEqual(79, self.hidden.see_commands([(0, "a"), (20, "b"), (25, "c")], "find"))

    def test_properties(self):
        self.hidden.see([(0, "a")], [("command", 7, "go")])
        expected = [[7], [("see", [(0, "a")], [("command", 7, "go")])]]
        self.assertEqual(expected, [self.hidden.candidates, self.hidden.history])

    def test_from_log(self):
        hidden = HiddenWait.from_log(KEYMAP, ("see", [(0, "a")], [("command", 7, "go")]))
        self.assertEqual([7], hidden.candidates)

    def test_telling_strokes(self):
        self.hidden.see([(0, "a")], [("command", 7, "go")])
        self.assertIsNone(self.hidden.telling_strokes())


class SeeTest(Checks):
    def test_all_waits_are_candidates_at_first(self):
        for keymap in (KEYMAP, KEYMAP.with_wait(1), KEYMAP.with_wait(99), KeyMap.simple(5)):
            hidden = HiddenWait(keymap)
            self.assertEqual([ALL, []], [hidden.candidates, hidden.history])

    def test_observations_that_tell_nothing(self):
        hidden = HiddenWait(KEYMAP)
        self.assertEqual(99, hidden.see([], []))
        self.assertEqual(99, hidden.see_commands([]))
        self.assertEqual(99, hidden.see([(0, "c")], [("command", 0, "stop")]))
        self.assertEqual(99, hidden.see_commands([(0, "a"), (3, "x"), (500, "c")], "go", "stop"))
        self.assertEqual(4, len(hidden.history))

    def test_candidates_become_fewer(self):
        hidden = HiddenWait(KEYMAP)
        self.assertEqual(69, hidden.see_commands([(0, "a"), (30, "b"), (30, "c")], "find"))
        self.assertEqual(ALL[30:], hidden.candidates)
        self.assertEqual(20, hidden.see_commands([(7, "a"), (57, "b"), (57, "c")], "go", "stop"))
        self.assertEqual(ALL[30:50], hidden.candidates)
        self.assertEqual(1, hidden.see([(0, "a"), (4, "b")], [("command", 44, "go"), ("lost", 44, "b")]))
        self.assertEqual([40], hidden.candidates)

    def test_all_events_must_be_the_same(self):
        strokes = [(0, "a"), (1, "b"), (2, "x")]
        events = [("command", 2, "go"), ("lost", 2, "b"), ("lost", 2, "x")]
        self.assertEqual(98, HiddenWait(KEYMAP).see(strokes, events))
        for wrong in (
            events[:2], events + events[-1:], events[::-1], [], tuple(events), None, "", 0, True, [None], [()],
            [("command", 2, "go"), ("lost", 2, "b"), ("lost", 3, "x")],
            [("command", 2, "go"), ("lost", 2, "b"), ("command", 2, "x")],
            [("command", 2, "go"), ("lost", 2, "b"), ("lost", 2, "y")],
            [["command", 2, "go"], ("lost", 2, "b"), ("lost", 2, "x")],
        ):
            with self.subTest(wrong):
                self.check_raises(Contradiction, {}, HiddenWait(KEYMAP).see, strokes, wrong)

    def test_all_commands_must_be_the_same(self):
        strokes = [(0, "a"), (5, "b"), (5, "c"), (9, "x"), (9, "c")]
        self.assertEqual(94, HiddenWait(KEYMAP).see_commands(strokes, "find", "stop"))
        self.assertEqual(5, HiddenWait(KEYMAP).see_commands(strokes, "go", "stop", "stop"))
        for wrong in (
            (), ("find",), ("stop", "find"), ("find", "stop", "stop"), ("go", "stop"), ("find", None), ("find", 1),
            (["find", "stop"],), (("find", "stop"),), ("find", "STOP"),
        ):
            with self.subTest(wrong):
                self.check_raises(Contradiction, {}, HiddenWait(KEYMAP).see_commands, strokes, *wrong)

    def test_invalid_strokes_come_first(self):
        for odd in ODD_VALUES:
            hidden = HiddenWait(KEYMAP)
            if odd != []:
                self.check_raises(InvalidStrokes, {"index": 0}, hidden.see, odd, [None])
                self.check_raises(InvalidStrokes, {"index": 0}, hidden.see_commands, odd, "none")
            self.check_raises(InvalidStrokes, {"index": 1}, hidden.see, [(0, "a"), odd], None)
            self.check_raises(InvalidStrokes, {"index": 1}, hidden.see_commands, [(0, "a"), odd])
            self.assertEqual([ALL, []], [hidden.candidates, hidden.history])
        strokes = [(0, "c")] * 301
        self.check_raises(InvalidStrokes, {"index": 300}, hidden.see, strokes, [("command", 0, "stop")] * 301)
        self.check_raises(InvalidStrokes, {"index": 300}, hidden.see_commands, strokes, *["stop"] * 301)

    def test_a_contradiction_changes_nothing(self):
        hidden = HiddenWait(KEYMAP)
        hidden.see_commands([(0, "a"), (20, "b"), (25, "c")], "find")
        history = hidden.history
        self.check_raises(Contradiction, {}, hidden.see, [(0, "a")], [("command", 20, "go")])
        self.check_raises(Contradiction, {}, hidden.see_commands, [(0, "a"), (20, "b"), (20, "c")], "go", "stop")
        self.check_raises(InvalidStrokes, {"index": 0}, hidden.see_commands, [(0, "A")])
        self.assertEqual([ALL[20:], history], [hidden.candidates, hidden.history])
        self.assertEqual(1, hidden.see([(0, "a")], [("command", 21, "go")]))
        self.assertEqual(2, len(hidden.history))

    def test_history(self):
        hidden = HiddenWait(KEYMAP)
        hidden.see_commands([])
        hidden.see([(0, "c")], [("command", 0, "stop")])
        hidden.see([], [])
        hidden.see_commands([(3, "x"), (3, "c"), (90, "c")], "stop", "stop")
        self.assertEqual(
            [
                ("see_commands", []),
                ("see", [(0, "c")], [("command", 0, "stop")]),
                ("see", [], []),
                ("see_commands", [(3, "x"), (3, "c"), (90, "c")], "stop", "stop"),
            ],
            hidden.history,
        )

    def test_arguments_are_neither_modified_nor_kept(self):
        hidden = HiddenWait(KEYMAP)
        strokes, events = [(0, "a")], [("command", 30, "go")]
        hidden.see(strokes, events)
        more = [(0, "a"), (3, "c")]
        hidden.see_commands(more, "go", "stop")
        self.assertEqual([[(0, "a")], [("command", 30, "go")]], [strokes, events])
        strokes.clear()
        events.append(None)
        more[0] = (0, "x")
        expected = [("see", [(0, "a")], [("command", 30, "go")]),
                    ("see_commands", [(0, "a"), (3, "c")], "go", "stop")]
        self.assertEqual(expected, hidden.history)

    def test_lists_are_new_for_each_reading(self):
        hidden = HiddenWait(KEYMAP)
        hidden.see([(0, "a")], [("command", 30, "go")])
        hidden.see_commands([(0, "c")], "stop")
        hidden.candidates.clear()
        hidden.history[0][1].clear()
        hidden.history[0][2].clear()
        hidden.history[1][1].append((9, "c"))
        hidden.history.clear()
        expected = [("see", [(0, "a")], [("command", 30, "go")]), ("see_commands", [(0, "c")], "stop")]
        self.assertEqual([[30], expected], [hidden.candidates, hidden.history])
        self.assertEqual(1, hidden.see([], []))

    def test_hidden_waits_do_not_share_anything(self):
        one, other = HiddenWait(KEYMAP), HiddenWait(KEYMAP)
        one.see([(0, "a")], [("command", 30, "go")])
        self.assertEqual([ALL, []], [other.candidates, other.history])

    def test_against_plain_playing_with_each_wait(self):
        dice = new_dice(52)
        for _ in range(15):
            keymap = chance_map(dice, "ab", 3, 6, waits=(1, 50, 99))
            truth = dice.choice(ALL)
            hidden, expected = HiddenWait(keymap), ALL
            for number in range(4):
                ticks = sorted(dice.randrange(150) for _ in range(5))
                strokes = [(tick, dice.choice("ab")) for tick in ticks]
                events = plain_events(keymap, truth, strokes)
                commands = [name for what, _, name in events if what == "command"]
                if number == 3:
                    expected = [wait for wait in expected if plain_events(keymap, wait, strokes) == events]
                    self.assertEqual(len(expected), hidden.see(strokes, events))
                else:
                    waits, expected = expected, []
                    for wait in waits:
                        told = plain_events(keymap, wait, strokes)
                        if [name for what, _, name in told if what == "command"] == commands:
                            expected.append(wait)
                    self.assertEqual(len(expected), hidden.see_commands(strokes, *commands))
                self.assertIn(truth, expected)
                self.assertEqual(expected, hidden.candidates)


class FromLogTest(Checks):
    def test_no_observations(self):
        hidden = HiddenWait.from_log(KEYMAP)
        self.assertIs(HiddenWait, hidden.__class__)
        self.assertEqual([ALL, []], [hidden.candidates, hidden.history])

    def test_a_history_is_a_log(self):
        hidden = HiddenWait(KEYMAP)
        hidden.see_commands([(0, "a"), (30, "b"), (30, "c")], "find")
        hidden.see([(0, "a"), (60, "x")], [("command", 33, "go"), ("lost", 60, "x")])
        hidden.see_commands([])
        other = HiddenWait.from_log(KEYMAP.with_wait(50), *hidden.history)
        self.assertEqual([[33], hidden.history], [other.candidates, other.history])
        other.see([], [])
        self.assertEqual([3, 4], [len(hidden.history), len(other.history)])

    def test_exceptions(self):
        good = ("see_commands", [(0, "a"), (30, "b"), (30, "c")], "find")
        bad = ("see", [(0, "a")], [("command", 30, "go")])
        invalid = ("see_commands", [(0, "a"), (0, "A")])
        self.check_raises(Contradiction, {}, HiddenWait.from_log, KEYMAP, good, bad, invalid)
        self.check_raises(InvalidStrokes, {"index": 1}, HiddenWait.from_log, KEYMAP, good, invalid, bad)

    def test_the_log_is_not_kept(self):
        log = [("see", [(0, "a")], [("command", 30, "go")]), ("see_commands", [(0, "c")], "stop")]
        hidden = HiddenWait.from_log(KEYMAP, *log)
        log[0][1].clear()
        log[0][2].clear()
        log[1][1].clear()
        expected = [("see", [(0, "a")], [("command", 30, "go")]), ("see_commands", [(0, "c")], "stop")]
        self.assertEqual(expected, hidden.history)


class TellingStrokesTest(Checks):
    def test_least_and_greatest_candidate(self):
        hidden = HiddenWait(KEYMAP)
        self.assertEqual(first_parting(KEYMAP.with_wait(1), KEYMAP.with_wait(99)), hidden.telling_strokes())
        hidden.see_commands([(0, "a"), (30, "b"), (30, "c")], "find")
        hidden.see_commands([(0, "a"), (50, "b"), (50, "c")], "go", "stop")
        found = hidden.telling_strokes()
        self.assertEqual(first_parting(KEYMAP.with_wait(31), KEYMAP.with_wait(50)), found)
        self.assertNotEqual(play(KEYMAP.with_wait(31), found), play(KEYMAP.with_wait(50), found))

    def test_nothing_is_recorded(self):
        hidden = HiddenWait(KEYMAP)
        hidden.telling_strokes().clear()
        self.assertEqual([(0, "a")], hidden.telling_strokes())
        self.assertEqual([ALL, []], [hidden.candidates, hidden.history])

    def test_no_strokes_tell(self):
        self.assertIsNone(HiddenWait(KeyMap.simple(9, a="x", b="y")).telling_strokes())

    def test_ticks_tell(self):
        # Whatever the wait is, the commands are the same; only their ticks tell.
        keymap = KeyMap.simple(9, a="x", aa="x")
        found = HiddenWait(keymap).telling_strokes()
        self.assertEqual([(0, "a")], found)
        self.assertEqual(list(commands_of(keymap.with_wait(1), found)), list(commands_of(keymap.with_wait(99), found)))

    def test_too_many_keys(self):
        hidden = HiddenWait(TOO_MANY)
        self.check_raises(TooManyKeys, {}, hidden.telling_strokes)
        hidden.see([(0, "a")], [("lost", 5, "a")])
        self.check_raises(TooManyKeys, {}, hidden.telling_strokes)
        self.assertEqual([5], hidden.candidates)


class WrongKeyMapTest(Checks):
    def test_waits_out_of_range_are_no_candidates(self):
        self.check_raises(InvalidMap, {"part": "wait", "index": 0}, KEYMAP.with_wait, 100)
        self.check_raises(Contradiction, {}, HiddenWait(KEYMAP).see, [(0, "a")], [("command", 100, "go")])
        self.check_raises(Contradiction, {}, HiddenWait(KEYMAP).see, [(0, "a")], [("command", 0, "go")])
        self.assertEqual(1, HiddenWait(KEYMAP).see([(0, "a")], [("command", 99, "go")]))
        self.assertEqual(1, HiddenWait(KEYMAP).see([(0, "a")], [("command", 1, "go")]))

import unittest

from helper import ODD_VALUES, Checks
from keywaits.errors import InvalidMap
from keywaits.maps import KeyMap, reachable_modes

MODES = ("n", "i")
BINDING = ("n", "ab", "go", "i")
SINGLES = tuple(("n", key, "go", "n") for key in "abcdefghijklmnopqrstuvwxyz")
DOUBLES = tuple(("n", "a" + key, "go", "n") for key in "abcdefghijklmnopqrstuvwxyz")


class ExamplesTest(Checks):
    def test_key_map(self):
        keymap = KeyMap(("n", "i"), 5, (("n", "i", "insert", "i"), ("i", "jk", "leave", "n")))
        self.assertEqual(
            [("n", "i"), 5, ("i", "jk", "leave", "n")], [keymap.modes, keymap.wait, keymap.bindings[1]]
        )

    def test_invalid_binding(self):
        bindings = (("n", "i", "insert", "i"),)
        self.check_raises(InvalidMap, {"part": "bindings", "index": 0}, KeyMap, ("n",), 5, bindings)

    def test_simple(self):
        keymap = KeyMap.simple(10, a="go", abc="find", c="stop")
        expected = (("main", "a", "go", "main"), ("main", "abc", "find", "main"), ("main", "c", "stop", "main"))
        self.assertEqual(expected, keymap.bindings)

    def test_with_wait(self):
        keymap = KeyMap.simple(10, a="go", abc="find", c="stop")
        self.assertEqual(3, keymap.with_wait(3).wait)

    def test_reachable_modes(self):
        self.assertEqual(["n", "i"], reachable_modes(KeyMap(("n", "i", "v"), 5, (("n", "i", "insert", "i"),))))


class KeyMapTest(Checks):
    def check_invalid(self, part, index, modes, wait, bindings):
        self.check_raises(InvalidMap, {"part": part, "index": index}, KeyMap, modes, wait, bindings)

    def test_properties(self):
        keymap = KeyMap(MODES, 7, (BINDING,))
        self.assertEqual((MODES, 7, (BINDING,)), (keymap.modes, keymap.wait, keymap.bindings))

    def test_arguments_by_name(self):
        keymap = KeyMap(bindings=(BINDING,), wait=7, modes=MODES)
        self.assertEqual((MODES, 7, (BINDING,)), (keymap.modes, keymap.wait, keymap.bindings))

    def test_key_map_never_changes(self):
        keymap = KeyMap(MODES, 7, (BINDING,))
        for name in ("modes", "wait", "bindings"):
            with self.subTest(name), self.assertRaises(AttributeError):
                setattr(keymap, name, getattr(keymap, name))

    def test_greatest_sizes(self):
        modes = ("abcdefgh", "z", "y", "xxxxxxxx")
        bindings = tuple((modes[0], keys, command, modes[0]) for _, keys, command, _ in SINGLES[:25])
        bindings += (("z", "abcdef", "zzzzzzzz", "xxxxxxxx"), ("y", "a", "a", "y"), ("z", "a", "a", "z"))
        bindings += (("z", "abcde", "a", "z"), ("xxxxxxxx", "abcdef", "a", "z"))
        self.assertEqual(30, len(bindings))
        for wait in (1, 99):
            keymap = KeyMap(modes, wait, bindings)
            self.assertEqual((modes, wait, bindings), (keymap.modes, keymap.wait, keymap.bindings))

    def test_no_bindings(self):
        self.assertEqual((), KeyMap(MODES, 7, ()).bindings)

    def test_modes_are_not_a_tuple_or_empty(self):
        for modes in ([], ["n", "i"], "ni", "", 0, 1, True, None, ()):
            with self.subTest(modes):
                self.check_invalid("modes", 0, modes, 7, ())

    def test_modes_with_an_invalid_item(self):
        names = ("abcdefghi", "N", "n1", "n ", " ", "n\n", "\u00e9", "\uff41", "_", ("n",), ["n"], 5)
        for mode in names + ODD_VALUES:
            with self.subTest(mode):
                self.check_invalid("modes", 0, (mode,), 7, ())
                self.check_invalid("modes", 2, ("n", "i", mode, mode), 7, ())
                self.check_invalid("modes", 1, ("n", mode, "n"), 7, ())

    def test_modes_with_a_repeated_one(self):
        self.check_invalid("modes", 1, ("n", "n"), 7, ())
        self.check_invalid("modes", 3, ("n", "i", "v", "i", ""), 7, ())

    def test_modes_with_a_fifth_one(self):
        self.check_invalid("modes", 4, ("a", "b", "c", "d", "e"), 7, ())
        self.check_invalid("modes", 4, ("a", "b", "c", "d", "a", "A"), 7, ())
        self.check_invalid("modes", 3, ("a", "b", "c", "c", "e"), 7, ())

    def test_wait(self):
        for wait in (0, 100, -1, 10 ** 20, True, False, "5", "", None, (5,), [5], (), []):
            with self.subTest(wait):
                self.check_invalid("wait", 0, MODES, wait, (BINDING,))

    def test_bindings_are_not_a_tuple(self):
        for bindings in ([], [BINDING], "abcd", "", 0, 4, True, None):
            with self.subTest(bindings):
                self.check_invalid("bindings", 0, MODES, 7, bindings)

    def test_bindings_with_an_item_that_is_none(self):
        items = ("abcd", list(BINDING), BINDING[:3], BINDING + ("n",), ("n", "n", "n", "n", "n"), ((), (), (), ()))
        for item in items + ODD_VALUES:
            with self.subTest(item):
                self.check_invalid("bindings", 0, MODES, 7, (item,))
                self.check_invalid("bindings", 1, MODES, 7, (BINDING, item, BINDING))

    def test_bindings_with_an_invalid_part(self):
        invalid = (
            ("v", "MODES", "N", "nn", ("n",), ["n"], MODES),
            ("abcdefg", "aB", "a1", "a b", "a\n", "\u00e9", ("a", "b"), ["a"], 5),
            ("abcdefghi", "Go", "go1", "g o", "go\n", "\u00e9", ("g", "o"), ["go"], 5),
            ("v", "MODES", "N", "nn", ("i",), ["i"], MODES),
        )
        for place, values in enumerate(invalid):
            for value in values + ODD_VALUES:
                item = BINDING[:place] + (value,) + BINDING[place + 1:]
                with self.subTest(item):
                    self.check_invalid("bindings", 0, MODES, 7, (item,))
                    self.check_invalid("bindings", 2, MODES, 7, SINGLES[:2] + (item, 5))

    def test_bindings_with_a_repeated_one(self):
        self.check_invalid("bindings", 1, MODES, 7, (BINDING, BINDING))
        again = (BINDING, ("i", "ab", "go", "i"), ("n", "a", "go", "i"), ("n", "ab", "other", "n"), None)
        self.check_invalid("bindings", 3, MODES, 7, again)

    def test_bindings_with_a_31st_one(self):
        self.assertEqual(30, len(KeyMap(MODES, 7, SINGLES + DOUBLES[:4]).bindings))
        self.check_invalid("bindings", 30, MODES, 7, SINGLES + DOUBLES[:5])
        self.check_invalid("bindings", 30, MODES, 7, SINGLES + DOUBLES[:4] + (None, None))
        self.check_invalid("bindings", 29, MODES, 7, SINGLES + DOUBLES[:3] + (None, None))

    def test_order_of_the_parts(self):
        self.check_invalid("modes", 0, (), 0, None)
        self.check_invalid("modes", 4, ("a", "b", "c", "d", "e"), True, [])
        self.check_invalid("wait", 0, MODES, 100, None)
        self.check_invalid("bindings", 0, MODES, 99, None)

    def test_arguments_are_not_modified(self):
        modes, bindings = ["n"], [["n", "a", "go", "n"]]
        self.check_invalid("modes", 0, modes, 7, bindings)
        self.check_invalid("bindings", 0, ("n",), 7, (bindings[0],))
        self.assertEqual((["n"], [["n", "a", "go", "n"]]), (modes, bindings))

    def test_equal_arguments_give_equal_key_maps(self):
        keymap = KeyMap(MODES, 7, (BINDING,))
        self.assertEqual(keymap, KeyMap(MODES, 7, (BINDING,)))
        self.assertEqual(keymap.with_wait(3), keymap.with_wait(3))
        self.assertNotEqual(keymap, keymap.with_wait(3))
        self.assertNotEqual(keymap, KeyMap(MODES, 7, ()))
        self.assertNotEqual(keymap, KeyMap(MODES + ("v",), 7, (BINDING,)))
        self.assertNotEqual(keymap, (MODES, 7, (BINDING,)))


class SimpleTest(Checks):
    def test_parts(self):
        keymap = KeyMap.simple(99)
        self.assertEqual((("main",), 99, ()), (keymap.modes, keymap.wait, keymap.bindings))
        self.assertEqual(("main", "abcdef", "zzzzzzzz", "main"), KeyMap.simple(1, abcdef="zzzzzzzz").bindings[0])
        self.assertEqual(5, KeyMap.simple(wait=5).wait)

    def test_order_of_the_arguments(self):
        bindings = KeyMap.simple(1, b="x", a="y", ab="z", c="w").bindings
        self.assertEqual(["b", "a", "ab", "c"], [binding[1] for binding in bindings])

    def test_names_that_programs_use(self):
        bindings = KeyMap.simple(1, cls="x", self="y", modes="z").bindings
        self.assertEqual(["cls", "self", "modes"], [binding[1] for binding in bindings])

    def test_invalid_arguments(self):
        for wait in (0, 100, True, None, "5"):
            self.check_raises(InvalidMap, {"part": "wait", "index": 0}, KeyMap.simple, wait, A="x")
        for commands in ({"a": "x", "abcdefg": "y"}, {"a": "x", "b_": "y", "c": 5}, {"a": "x", "b": "abcdefghi"}):
            with self.subTest(commands):
                self.check_raises(InvalidMap, {"part": "bindings", "index": 1}, KeyMap.simple, 5, **commands)
        for command in ODD_VALUES:
            with self.subTest(command):
                self.check_raises(InvalidMap, {"part": "bindings", "index": 0}, KeyMap.simple, 5, a=command)

    def test_a_31st_argument(self):
        commands = {binding[1]: "x" for binding in SINGLES + DOUBLES[:4]}
        self.assertEqual(30, len(KeyMap.simple(5, **commands).bindings))
        self.check_raises(InvalidMap, {"part": "bindings", "index": 30}, KeyMap.simple, 5, **commands, ba="x")


class WithWaitTest(Checks):
    def test_other_parts_stay(self):
        keymap = KeyMap(MODES, 7, (BINDING,))
        other = keymap.with_wait(99)
        self.assertEqual((MODES, 99, (BINDING,)), (other.modes, other.wait, other.bindings))
        self.assertEqual(7, keymap.wait)
        self.assertEqual(1, keymap.with_wait(wait=1).wait)

    def test_invalid_wait(self):
        keymap = KeyMap(MODES, 7, (BINDING,))
        for wait in (0, 100, -5, True, False, None, "5", (5,), [5]):
            with self.subTest(wait):
                self.check_raises(InvalidMap, {"part": "wait", "index": 0}, keymap.with_wait, wait)
        self.assertEqual(7, keymap.wait)


class ReachableModesTest(unittest.TestCase):
    def test_order_of_the_modes(self):
        bindings = (("d", "a", "x", "b"), ("b", "a", "x", "c"), ("a", "a", "x", "d"))
        self.assertEqual(["a", "b", "c", "d"], reachable_modes(KeyMap(("a", "b", "c", "d"), 5, bindings)))
        self.assertEqual(["b", "a"], reachable_modes(KeyMap(("b", "a"), 5, (("b", "a", "x", "a"),))))

    def test_far_modes_first_in_the_bindings(self):
        bindings = (("c", "a", "x", "d"), ("b", "a", "x", "c"), ("a", "a", "x", "b"))
        self.assertEqual(["a", "b", "c", "d"], reachable_modes(KeyMap(("a", "b", "c", "d"), 5, bindings)))

    def test_modes_that_only_lead_elsewhere(self):
        bindings = (("b", "a", "x", "c"), ("c", "a", "x", "b"), ("d", "a", "x", "a"), ("a", "a", "x", "a"))
        self.assertEqual(["a"], reachable_modes(KeyMap(("a", "b", "c", "d"), 5, bindings)))
        self.assertEqual(["b"], reachable_modes(KeyMap(("b", "a"), 5, ())))

    def test_skipped_mode(self):
        self.assertEqual(["a", "c"], reachable_modes(KeyMap(("a", "b", "c"), 5, (("a", "a", "x", "c"),))))

    def test_mode_behind_keys_that_begin_longer_ones(self):
        bindings = (("a", "k", "x", "b"), ("a", "kk", "y", "a"))
        self.assertEqual(["a", "b"], reachable_modes(KeyMap(("a", "b"), 5, bindings)))

    def test_returned_list_may_be_changed(self):
        keymap = KeyMap(MODES, 5, (BINDING,))
        reachable_modes(keymap).clear()
        self.assertEqual(["n", "i"], reachable_modes(keymap))
        self.assertEqual(MODES, keymap.modes)

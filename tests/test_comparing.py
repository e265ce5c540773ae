import unittest
from unittest import mock

from helper import Checks, all_strokes, changed_map, chance_map, new_dice
from keywaits.comparing import are_alike, first_parting
from keywaits.errors import TooManyKeys
from keywaits.maps import KeyMap
from keywaits.player import commands_of, play

KEYMAP = KeyMap.simple(10, a="go", abc="find", c="stop")


def do_part(one, other, strokes, is_timed):
    if is_timed:
        return play(one, strokes) != play(other, strokes)
    return list(commands_of(one, strokes)) != list(commands_of(other, strokes))


def plain_parting(one, other, is_timed, keys, most, longest_pause):
    for number in range(most + 1):
        for strokes in all_strokes(keys, number, longest_pause):
            if do_part(one, other, strokes, is_timed):
                return strokes
    return None


class ExamplesTest(unittest.TestCase):
    def test_first_parting(self):
        other = KEYMAP.with_wait(9)
        found = [first_parting(KEYMAP, other), first_parting(KEYMAP, other, is_timed=False)]
        self.assertEqual([[(0, "a")], [(0, "a"), (0, "b"), (9, "c")]], found)

    def test_are_alike(self):
        keymap = KeyMap.simple(10, a="go", b="stop")
        self.assertIs(True, are_alike(keymap, keymap.with_wait(9)))


class FirstPartingTest(unittest.TestCase):
    def check(self, expected, one, other, is_timed):
        """Check the answer, that it does not depend on the order of the key maps, and `are_alike`."""
        self.assertEqual(expected, first_parting(one, other, is_timed=is_timed))
        self.assertEqual(expected, first_parting(other, one, is_timed=is_timed))
        self.assertIs(expected is None, are_alike(one, other, is_timed=is_timed))
        self.assertIs(expected is None, are_alike(other, one, is_timed=is_timed))

    def check_both(self, expected, one, other):
        self.check(expected, one, other, True)
        self.check(expected, one, other, False)

    def test_the_same_key_map(self):
        self.check_both(None, KEYMAP, KEYMAP)
        self.check_both(None, KeyMap.simple(5), KeyMap.simple(9))

    def test_timed_is_the_default(self):
        self.assertEqual([(0, "a")], first_parting(KEYMAP, KEYMAP.with_wait(11)))
        one, other = KeyMap.simple(5, a="x", ab="y"), KeyMap.simple(6, a="x", ab="y")
        self.assertIs(False, are_alike(one, other))

    def test_other_commands(self):
        self.check_both([(0, "b")], KeyMap.simple(5, a="x", b="y"), KeyMap.simple(5, a="x", b="z"))

    def test_a_missing_binding(self):
        self.check_both([(0, "b")], KeyMap.simple(5, a="x", b="y"), KeyMap.simple(5, a="x"))
        one, other = KeyMap.simple(5, a="x", ba="y"), KeyMap.simple(5, a="x")
        self.check([(0, "b"), (0, "a")], one, other, False)

    def test_lost_keys_count_only_if_timed(self):
        # With one key map, "b" waits before it is lost.
        one, other = KeyMap.simple(5, a="x", ba="x"), KeyMap.simple(5, a="x")
        self.check([(0, "b")], one, other, True)
        self.check(None, one, other, False)

    def test_waits_without_an_effect(self):
        one = KeyMap.simple(5, a="x", b="y")
        self.check_both(None, one, one.with_wait(6))

    def test_waits_in_a_mode_that_cannot_be_reached(self):
        one = KeyMap(("m", "n"), 5, (("m", "a", "x", "m"), ("n", "a", "x", "n"), ("n", "ab", "y", "m")))
        self.check_both(None, one, one.with_wait(6))

    def test_names_of_modes_do_not_matter(self):
        one = KeyMap(("m", "n"), 5, (("m", "a", "x", "n"), ("n", "a", "y", "m")))
        other = KeyMap(("p", "q", "m"), 5, (("p", "a", "x", "m"), ("m", "a", "y", "p")))
        self.check_both(None, one, other)

    def test_modes_that_part_late(self):
        one = KeyMap(("m", "n"), 5, (("m", "a", "x", "n"), ("n", "a", "x", "m"), ("n", "b", "y", "n")))
        other = KeyMap(("m", "n"), 5, (("m", "a", "x", "n"), ("n", "a", "x", "n"), ("n", "b", "y", "n")))
        self.check_both([(0, "a"), (0, "a"), (0, "b")], one, other)

    def test_fewest_keys_come_before_the_first_list(self):
        one = KeyMap.simple(5, a="x", aa="y", b="x")
        other = KeyMap.simple(5, a="x", aa="z", b="z")
        self.check_both([(0, "b")], one, other)

    def test_first_list_takes_the_least_tick_before_the_least_key(self):
        one = KeyMap.simple(5, ab="x", ac="y", a="z")
        other = KeyMap.simple(4, ab="x", ac="y", a="z")
        self.check([(0, "a"), (4, "b")], one, other, False)
        other = KeyMap.simple(4, ab="x", ac="z", a="z")
        self.check([(0, "a"), (0, "c")], one, other, False)

    def test_one_key_map_is_ahead_in_commands(self):
        # One fires at once what the other fires later: the same commands, unless a wait passes.
        one = KeyMap.simple(3, a="x", b="y", c="z")
        other = KeyMap.simple(3, a="x", abc="w", b="y", c="z")
        self.check([(0, "a")], one, other, True)
        self.check([(0, "a"), (0, "b"), (0, "c")], one, other, False)
        other = KeyMap.simple(3, a="x", ab="w", b="y", c="z")
        self.check([(0, "a"), (0, "b")], one, other, False)

    def test_one_key_map_is_ahead_again_and_again(self):
        one = KeyMap.simple(3, a="x")
        other = KeyMap(("m", "n"), 3, (("m", "a", "x", "n"), ("m", "ab", "x", "n"), ("n", "a", "x", "m")))
        self.check([(0, "a")], one, other, True)
        self.check(None, one, other, False)

    def test_bindings_of_a_mode_that_cannot_be_reached(self):
        one = KeyMap.simple(3, a="x", b="y")
        bindings = (("main", "a", "x", "main"), ("main", "b", "y", "main"), ("rare", "a", "z", "rare"))
        self.check_both(None, one, KeyMap(("main", "rare"), 3, bindings))

    def test_pauses_that_lead_into_another_mode(self):
        bindings = (("m", "a", "x", "n"), ("m", "ab", "y", "m"), ("n", "b", "z", "n"))
        one = KeyMap(("m", "n"), 5, bindings)
        other = KeyMap(("m", "n"), 5, bindings[:2] + (("n", "b", "w", "n"),))
        self.check_both([(0, "a"), (5, "b")], one, other)

    def test_several_waits_pass_within_a_pause(self):
        # With the wait 2, "c" fires at 2 and "a" is lost at 4; with the wait 3, "a" still waits then.
        bindings = (("m", "c", "x", "n"), ("m", "caz", "x", "n"), ("n", "ab", "q", "n"), ("n", "b", "p", "n"))
        one, other = KeyMap(("m", "n"), 2, bindings), KeyMap(("m", "n"), 3, bindings)
        self.check([(0, "c"), (0, "a"), (4, "b")], one, other, False)

    def test_answers_are_new_lists(self):
        first_parting(KEYMAP, KEYMAP.with_wait(9)).clear()
        self.assertEqual([(0, "a")], first_parting(KEYMAP, KEYMAP.with_wait(9)))

    def test_strokes_end_at_300_keys(self):
        other = KEYMAP.with_wait(9)
        with mock.patch("keywaits.comparing.MOST_STROKES", 2):
            self.assertIsNone(first_parting(KEYMAP, other, is_timed=False))
        with mock.patch("keywaits.comparing.MOST_STROKES", 3):
            self.assertEqual(3, len(first_parting(KEYMAP, other, is_timed=False)))


class PlainPlayingTest(unittest.TestCase):
    """Each answer is the first that is found by playing all strokes up to a number of keys."""

    def check(self, one, other, keys, most, longest_pause):
        for is_timed in (True, False):
            found = first_parting(one, other, is_timed=is_timed)
            plain = plain_parting(one, other, is_timed, keys, most, longest_pause)
            with self.subTest(one=one.bindings, other=other.bindings, waits=(one.wait, other.wait), timed=is_timed):
                if found is None or len(found) <= most:
                    self.assertEqual(plain, found)
                else:
                    self.assertIsNone(plain)
                    self.assertTrue(do_part(one, other, found, is_timed))
                self.assertIs(found is None, are_alike(one, other, is_timed=is_timed))

    def test_rows_of_two_keys(self):
        dice = new_dice(5)
        for _ in range(40):
            one = chance_map(dice, "ab", 2, 5, waits=(1, 2))
            self.check(one, changed_map(dice, one), "abz", 3, 4)

    def test_rows_of_three_keys(self):
        dice = new_dice(6)
        for _ in range(12):
            one = chance_map(dice, "ab", 3, 6, waits=(1, 2))
            self.check(one, changed_map(dice, one), "ab", 4, 3)

    def test_rows_of_one_key(self):
        dice = new_dice(7)
        for _ in range(12):
            one = chance_map(dice, "a", 5, 4, waits=(1, 2), modes=("m", "n"))
            self.check(one, changed_map(dice, one), "a", 5, 4)

    def test_maps_that_have_nothing_to_do_with_each_other(self):
        dice = new_dice(8)
        for _ in range(30):
            one, other = chance_map(dice, "ab", 2, 4), chance_map(dice, "ab", 3, 4)
            self.check(one, other, "abz", 2, 6)

    def test_found_strokes_part_greater_key_maps(self):
        dice = new_dice(9)
        for _ in range(60):
            one = chance_map(dice, "abcdef", 6, 30, waits=(1, 9, 50), modes=("m", "n", "o", "p"))
            other = changed_map(dice, one)
            for is_timed in (True, False):
                found = first_parting(one, other, is_timed=is_timed)
                if found is not None:
                    self.assertTrue(do_part(one, other, found, is_timed))
                    self.assertFalse(do_part(one, other, found[:-1], is_timed))


class TooManyKeysTest(Checks):
    def check_too_many(self, one, other):
        for is_timed in (True, False):
            self.check_raises(TooManyKeys, {}, first_parting, one, other, is_timed=is_timed)
            self.check_raises(TooManyKeys, {}, are_alike, one, other, is_timed=is_timed)
            self.check_raises(TooManyKeys, {}, are_alike, other, one, is_timed=is_timed)

    def test_twelve_keys(self):
        keymap = KeyMap.simple(5, abcdef="x", ghijkl="y")
        self.assertIs(True, are_alike(keymap, keymap))
        one, other = KeyMap.simple(5, abcdef="x", g="z"), KeyMap.simple(5, ghijkl="y", a="z")
        self.assertEqual([(0, "a")], first_parting(one, other))

    def test_thirteen_keys(self):
        keymap = KeyMap.simple(5, abcdef="x", ghijkl="y", m="z")
        self.check_too_many(keymap, keymap)
        self.check_too_many(keymap, KeyMap.simple(5))

    def test_thirteen_keys_of_both_together(self):
        self.check_too_many(KeyMap.simple(5, abcdef="x", ghijkl="y"), KeyMap.simple(5, m="z", a="x"))

    def test_keys_of_all_modes_count(self):
        bindings = (("m", "abcdef", "x", "m"), ("n", "ghijkl", "x", "m"), ("n", "m", "x", "m"))
        keymap = KeyMap(("m", "n"), 5, bindings)
        self.check_too_many(keymap, keymap)

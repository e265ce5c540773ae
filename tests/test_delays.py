import unittest

from helper import all_strokes, chance_map, new_dice
from keywaits.delays import greatest_delay
from keywaits.maps import KeyMap, reachable_modes
from keywaits.player import find_delays
from keywaits.thinning import late_pairs

KEYMAP = KeyMap.simple(10, a="go", abc="find", c="stop")


def greatest_found(keymap, strokes):
    return max([delay for _, delay in find_delays(keymap, strokes)], default=0)


class AllStates:
    """Lives through all that can happen in a key map, tick by tick, with the age of each waiting key.

    A state is a tuple of the mode, the waiting keys as tuples (key, age), and the ticks since the last feeding.
    """

    def __init__(self, keymap):
        self.keymap = keymap
        self.greatest = 0
        self.rows = {mode: {b[1]: b for b in keymap.bindings if b[0] == mode} for mode in keymap.modes}

    def explore(self, keys):
        """Return the greatest delay of a command in all states that can be reached."""
        first = (self.keymap.modes[0], (), 0)
        seen, queue = {first}, [first]
        while queue:
            state = queue.pop()
            for after in [self.let_tick_go_by(state)] + [self.press(state, key) for key in keys]:
                if after not in seen:
                    seen.add(after)
                    queue.append(after)
        return self.greatest

    def press(self, state, key):
        mode, waiting, _ = state
        return self.feed(mode, waiting, [(key, 0)])

    def let_tick_go_by(self, state):
        mode, waiting, since = state
        if not waiting:
            return state
        older = tuple((key, age + 1) for key, age in waiting)
        if since + 1 < self.keymap.wait:
            return (mode, older, since + 1)
        return self.break_up(mode, older)

    def feed(self, mode, waiting, coming):
        for number, item in enumerate(coming):
            waiting = waiting + (item,)
            row = "".join(key for key, _ in waiting)
            if not any(keys.startswith(row) and keys != row for keys in self.rows[mode]):
                mode, waiting, _ = self.break_up(mode, waiting)
        return (mode, waiting, 0)

    def break_up(self, mode, waiting):
        row = "".join(key for key, _ in waiting)
        fitting = [keys for keys in self.rows[mode] if row.startswith(keys)]
        if not fitting:
            return self.feed(mode, (), waiting[1:])
        keys = max(fitting, key=len)
        self.greatest = max(self.greatest, waiting[len(keys) - 1][1])
        return self.feed(self.rows[mode][keys][3], (), waiting[len(keys):])


class GreatestDelayTest(unittest.TestCase):
    def check(self, expected, keymap):
        delay, strokes = greatest_delay(keymap)
        self.assertEqual(expected, delay)
        self.assertIs(list, strokes.__class__)
        self.assertIn(expected, [delay for _, delay in find_delays(keymap, strokes)])

    def test_examples(self):
        self.assertEqual(19, greatest_delay(KEYMAP)[0])
        self.assertEqual((0, []), greatest_delay(KeyMap.simple(10, a="go", b="stop")))

    def test_no_delay(self):
        for keymap in (KeyMap.simple(99), KeyMap.simple(99, abc="x", abd="y"), KeyMap.simple(99, b="x", ab="y")):
            self.assertEqual((0, []), greatest_delay(keymap))

    def test_answers_are_new(self):
        greatest_delay(KEYMAP)[1].clear()
        self.check(19, KEYMAP)
        greatest_delay(KeyMap.simple(9, a="x"))[1].append(1)
        self.assertEqual((0, []), greatest_delay(KeyMap.simple(9, a="x")))

    def test_one_wait(self):
        for wait in (1, 2, 50, 99):
            self.check(wait, KeyMap.simple(wait, a="x", ab="y"))

    def test_each_key_that_comes_begins_another_wait(self):
        for wait in (1, 2, 50, 99):
            self.check(wait + 4 * (wait - 1), KeyMap.simple(wait, a="x", abcdef="y"))

    def test_delay_of_a_binding_within_another_one(self):
        # "b" waits for the key "c", one tick less than a wait, and for the wait with which "a" is lost.
        self.check(19, KeyMap.simple(10, b="x", abcd="y"))

    def test_keys_left_over_wait_again(self):
        # "a" fires with the first wait that passes; "b" begins "bx" and waits once more.
        self.check(20, KeyMap.simple(10, a="x", abc="y", b="z", bx="w"))

    def test_same_keys_again_and_again(self):
        # Whenever the first key has fired, one more comes before the next wait passes.
        self.check(10 + 2 * 19, KeyMap.simple(10, aaaa="x", a="y"))
        self.check(10 + 4 * 19, KeyMap.simple(10, aaaaaa="x", a="y"))

    def test_delay_in_the_mode_that_a_command_leads_to(self):
        bindings = (("m", "x", "one", "n"), ("m", "xab", "two", "m"), ("n", "b", "up", "n"))
        self.check(19, KeyMap(("m", "n"), 10, bindings))
        bindings += (("n", "a", "up", "n"), ("n", "ac", "far", "n"))
        self.check(20, KeyMap(("m", "n"), 10, bindings))

    def test_modes_that_cannot_be_reached(self):
        late = (("n", "a", "x", "n"), ("n", "ab", "y", "m"))
        self.assertEqual((0, []), greatest_delay(KeyMap(("m", "n"), 10, (("m", "a", "x", "m"),) + late)))
        self.check(10, KeyMap(("m", "n"), 10, (("m", "a", "x", "n"),) + late))

    def test_ways_to_a_mode_through_others_with_waits(self):
        bindings = (
            ("p", "q", "x", "p"), ("p", "qrs", "y", "p"), ("o", "b", "next", "p"), ("o", "bb", "x", "o"),
            ("n", "ab", "next", "o"), ("n", "abb", "x", "n"), ("m", "abcdef", "next", "n"),
        )
        self.check(19, KeyMap(("m", "n", "o", "p"), 10, bindings))
        self.check(99, KeyMap(("m", "n", "o", "p"), 99, bindings[1:]))

    def test_lost_keys_have_no_delay(self):
        self.assertEqual((0, []), greatest_delay(KeyMap.simple(10, abc="x", bcd="y", q="z")))


class AllStatesTest(unittest.TestCase):
    """The greatest delay is the one that is found when all that can happen is lived through."""

    def check(self, keymap, keys):
        delay, strokes = greatest_delay(keymap)
        with self.subTest(bindings=keymap.bindings, wait=keymap.wait):
            self.assertEqual(AllStates(keymap).explore(keys), delay)
            self.assertEqual(delay, greatest_found(keymap, strokes))
            self.assertLessEqual(len(strokes), 60)

    def test_rows_of_two_keys(self):
        dice = new_dice(21)
        for _ in range(60):
            self.check(chance_map(dice, "ab", 3, 6, waits=(1, 2, 3, 4)), "abz")

    def test_rows_of_three_keys(self):
        dice = new_dice(22)
        for _ in range(40):
            self.check(chance_map(dice, "abc", 4, 8, waits=(1, 2, 3), modes=("m", "n", "o")), "abcz")

    def test_long_rows(self):
        dice = new_dice(23)
        for _ in range(30):
            self.check(chance_map(dice, "ab", 6, 7, waits=(1, 2, 3)), "ab")


class PlayingTest(unittest.TestCase):
    def test_no_strokes_have_a_greater_delay(self):
        dice = new_dice(24)
        for _ in range(4):
            keymap = chance_map(dice, "ab", 3, 5, waits=(1, 2))
            delay = greatest_delay(keymap)[0]
            for strokes in all_strokes("ab", 5, 2):
                self.assertLessEqual(greatest_found(keymap, strokes), delay)

    def test_a_delay_shows_a_late_pair_in_a_mode_that_can_be_reached(self):
        dice = new_dice(25)
        found = {True: 0, False: 0}
        for _ in range(200):
            keymap = chance_map(dice, "abc", 3, 6, waits=(1, 10), modes=("m", "n", "o"))
            reached = reachable_modes(keymap)
            is_late = any(keymap.bindings[number][0] in reached for number, _ in late_pairs(keymap))
            found[is_late] += 1
            self.assertIs(is_late, greatest_delay(keymap)[0] > 0)
        self.assertGreater(min(found.values()), 20)

    def test_many_bindings_and_great_waits(self):
        dice = new_dice(26)
        for _ in range(20):
            keymap = chance_map(dice, "abc", 6, 30, waits=(50, 99), modes=("m", "n", "o", "p"))
            delay, strokes = greatest_delay(keymap)
            self.assertEqual(delay, greatest_found(keymap, strokes))
            for _ in range(50):
                tick, tried = 0, []
                for _ in range(60):
                    tick += dice.choice((0, keymap.wait - 1, keymap.wait - 1, keymap.wait))
                    tried.append((tick, dice.choice("abc")))
                self.assertLessEqual(greatest_found(keymap, tried), delay)

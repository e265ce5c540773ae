import unittest

from helper import ODD_VALUES, Checks, PlainPlayer, chance_map, new_dice
from keywaits.errors import InvalidLength, InvalidNumber, InvalidStrokes
from keywaits.maps import KeyMap
from keywaits.player import Player, play
from keywaits.repeating import count_repeated, repeated_event

KEYMAP = KeyMap.simple(10, a="go", abc="find", c="stop")
FAR = 10 ** 18
# From "m" on, the modes "n", "o" and "p" follow each other again and again.
ROUND = KeyMap(
    ("m", "n", "o", "p"),
    10,
    (("m", "a", "start", "n"), ("n", "a", "two", "o"), ("o", "a", "three", "p"), ("p", "a", "four", "n")),
)


def written_out(strokes, length, times):
    return [(number * length + tick, key) for number in range(times) for tick, key in strokes]


def plain_counts(events):
    names = sorted(name for what, _, name in events if what == "command")
    return {name: names.count(name) for name in names}


def chance_strokes(dice, keys, most, last):
    ticks = sorted(dice.randrange(last + 1) for _ in range(dice.randint(1, most)))
    return [(tick, dice.choice(keys)) for tick in ticks]


def far_counts(keymap, strokes, length, times):
    """Count by doubling: what any number of repetitions does from any state, put together of two halves."""
    known = {}

    def repeat(state, many):
        if (state, many) not in known:
            known[state, many] = repeat_once(state) if many == 1 else repeat_halves(state, many)
        return known[state, many]

    def repeat_halves(state, many):
        one, between = repeat(state, many // 2)
        other, behind = repeat(between, many - many // 2)
        return {name: one.get(name, 0) + other.get(name, 0) for name in {**one, **other}}, behind

    def repeat_once(state):
        player = Player(keymap)
        player.state = state
        # The waiting keys were fed at the last tick of the repetition before: this is the tick 0 here.
        for tick, key in strokes:
            player.press(length - strokes[-1][0] + tick, key)
        return plain_counts([row[:3] for row in player.happened]), player.state

    counts, state = repeat((keymap.modes[0], ""), times)
    player = Player(keymap)
    player.state = state
    player.let_all_pass()
    for name, many in plain_counts([row[:3] for row in player.happened]).items():
        counts[name] = counts.get(name, 0) + many
    return counts


class CountRepeatedTest(Checks):
    def test_example(self):
        self.assertEqual({"go": 2 * FAR}, count_repeated(KEYMAP, [(0, "a"), (1, "a"), (3, "b")], 5, FAR))

    def test_no_strokes(self):
        for times in (0, 1, FAR):
            self.assertEqual({}, count_repeated(KEYMAP, [], 1, times))

    def test_no_repetitions(self):
        self.assertEqual({}, count_repeated(KEYMAP, [(0, "a"), (3, "c")], 4, 0))

    def test_one_repetition(self):
        self.assertEqual({"go": 1, "stop": 2}, count_repeated(KEYMAP, [(0, "c"), (3, "c"), (4, "a")], 5, 1))

    def test_no_commands(self):
        self.assertEqual({}, count_repeated(KEYMAP, [(0, "x"), (0, "b")], 1, FAR))

    def test_ascending_commands(self):
        keymap = KeyMap.simple(5, a="zeta", b="beta", c="alpha", d="gamma", e="betaa")
        for times in (1, 2, FAR):
            strokes = [(0, "a"), (0, "d"), (0, "b"), (0, "e"), (0, "c"), (0, "b")]
            found = count_repeated(keymap, strokes, 1, times)
            expected = [("alpha", times), ("beta", 2 * times), ("betaa", times), ("gamma", times), ("zeta", times)]
            self.assertEqual(expected, list(found.items()))

    def test_keys_wait_for_the_next_repetition(self):
        # The row "aaa" needs three repetitions if the wait does not pass; at the end, the rest is broken up.
        keymap = KeyMap.simple(10, aaa="three", a="one")
        for times, expected in (
            (1, {"one": 1}), (2, {"one": 2}), (3, {"three": 1}), (4, {"one": 1, "three": 1}),
            (FAR, {"one": 1, "three": FAR // 3}), (FAR - 1, {"three": FAR // 3}),
        ):
            self.assertEqual(expected, count_repeated(keymap, [(0, "a")], 9, times))
            self.assertEqual({"one": times}, count_repeated(keymap, [(0, "a")], 10, times))

    def test_wait_that_passes_between_repetitions(self):
        keymap = KeyMap.simple(10, ab="both", a="one", b="two")
        strokes = [(0, "b"), (5, "a")]
        self.assertEqual({"both": FAR - 1, "one": 1, "two": 1}, count_repeated(keymap, strokes, 14, FAR))
        self.assertEqual({"one": FAR, "two": FAR}, count_repeated(keymap, strokes, 15, FAR))

    def test_the_state_repeats_only_after_some_repetitions(self):
        # FAR is 1 more than a number that 3 divides.
        third = FAR // 3
        for times, expected in (
            (0, {}), (1, {"start": 1}), (2, {"start": 1, "two": 1}), (3, {"start": 1, "three": 1, "two": 1}),
            (4, {"four": 1, "start": 1, "three": 1, "two": 1}), (5, {"four": 1, "start": 1, "three": 1, "two": 2}),
            (FAR, {"four": third, "start": 1, "three": third, "two": third}),
            (FAR - 1, {"four": third - 1, "start": 1, "three": third, "two": third}),
            (FAR - 2, {"four": third - 1, "start": 1, "three": third - 1, "two": third}),
        ):
            self.assertEqual(expected, count_repeated(ROUND, [(2, "a")], 3, times))

    def test_300_strokes(self):
        self.assertEqual({"stop": 300 * FAR}, count_repeated(KEYMAP, [(4, "c")] * 300, 10 ** 9, FAR))

    def test_against_strokes_written_out(self):
        dice = new_dice(41)
        for _ in range(60):
            keymap = chance_map(dice, "ab", 4, 8, waits=(1, 2, 5), modes=("m", "n", "o"))
            strokes = chance_strokes(dice, "abz", 4, 5)
            length = strokes[-1][0] + dice.randint(1, 8)
            for times in (0, 1, 2, 3, 5, 8):
                expected = plain_counts(PlainPlayer(keymap).play(written_out(strokes, length, times)))
                with self.subTest(bindings=keymap.bindings, strokes=strokes, length=length, times=times):
                    self.assertEqual(expected, count_repeated(keymap, strokes, length, times))

    def test_far_ones_against_doubling(self):
        dice = new_dice(42)
        for _ in range(100):
            keymap = chance_map(dice, "ab", 6, 12, waits=(1, 5, 9), modes=("m", "n", "o", "p"))
            strokes = chance_strokes(dice, "ab", 3, 5)
            length = strokes[-1][0] + dice.randint(1, 8)
            for times in (1, 29, 10 ** 9 + 7, FAR - 1, FAR):
                with self.subTest(bindings=keymap.bindings, strokes=strokes, length=length, times=times):
                    expected = far_counts(keymap, strokes, length, times)
                    self.assertEqual(sorted(expected.items()),
                                     list(count_repeated(keymap, strokes, length, times).items()))


class RepeatedEventTest(Checks):
    def test_example(self):
        expected = ("command", 3 * 10 ** 17, "stop")
        self.assertEqual(expected, repeated_event(KEYMAP, [(0, "c")], 3, 10 ** 17))

    def test_no_strokes(self):
        for number in (0, 1, FAR):
            self.assertIsNone(repeated_event(KEYMAP, [], 1, number))

    def test_first_events(self):
        strokes = [(0, "b"), (2, "c"), (3, "a")]
        events = [("lost", 0, "b"), ("command", 2, "stop"), ("command", 13, "go"), ("lost", 20, "b")]
        self.assertEqual(events, [repeated_event(KEYMAP, strokes, 20, number) for number in range(4)])

    def test_lost_keys_count(self):
        self.assertEqual(("lost", 7 * FAR + 6, "x"), repeated_event(KEYMAP, [(6, "x")], 7, FAR))
        strokes = [(0, "x"), (0, "c")]
        self.assertEqual(("lost", 7 * FAR // 2, "x"), repeated_event(KEYMAP, strokes, 7, FAR))
        self.assertEqual(("command", 7 * (FAR // 2 - 1), "stop"), repeated_event(KEYMAP, strokes, 7, FAR - 1))

    def test_no_wait_passes_before_the_next_repetition(self):
        # If the strokes are repeated for ever, there is no last key behind which all waits pass.
        keymap = KeyMap.simple(10, aaa="three", a="one")
        self.assertEqual(("command", 18, "three"), repeated_event(keymap, [(0, "a")], 9, 0))
        self.assertEqual(("command", 27 * FAR + 18, "three"), repeated_event(keymap, [(0, "a")], 9, FAR))
        self.assertEqual(("command", 10 * FAR + 10, "one"), repeated_event(keymap, [(0, "a")], 10, FAR))

    def test_the_state_repeats_only_after_some_repetitions(self):
        # FAR is 1 more than a number that 3 divides.
        for number, name in ((0, "start"), (1, "two"), (2, "three"), (3, "four"), (4, "two"), (FAR, "two"),
                             (FAR - 1, "four"), (FAR - 2, "three"), (FAR - 3, "two")):
            expected = ("command", 3 * number + 2, name)
            self.assertEqual(expected, repeated_event(ROUND, [(2, "a")], 3, number))

    def test_300_strokes(self):
        last = ("command", (FAR // 300) * 10 ** 9 + 4, "stop")
        self.assertEqual(last, repeated_event(KEYMAP, [(4, "c")] * 300, 10 ** 9, FAR))

    def test_against_strokes_written_out(self):
        dice = new_dice(43)
        for _ in range(60):
            keymap = chance_map(dice, "ab", 4, 8, waits=(1, 2, 5), modes=("m", "n", "o"))
            strokes = chance_strokes(dice, "abz", 4, 5)
            length = strokes[-1][0] + dice.randint(1, 8)
            # Six keys wait at most: so many strokes less, and the end has no effect.
            events = PlainPlayer(keymap).play(written_out(strokes, length, 30))[:15]
            with self.subTest(bindings=keymap.bindings, strokes=strokes, length=length):
                self.assertEqual(events, [repeated_event(keymap, strokes, length, n) for n in range(len(events))])

    def test_far_ones_against_what_is_seen_to_come_again(self):
        dice = new_dice(44)
        for _ in range(60):
            keymap = chance_map(dice, "ab", 6, 12, waits=(1, 5, 9), modes=("m", "n", "o", "p"))
            strokes = chance_strokes(dice, "ab", 3, 5)
            length = strokes[-1][0] + dice.randint(1, 8)
            player = Player(keymap)
            for tick, key in written_out(strokes, length, 1500):
                player.press(tick, key)
            events = [row[:3] for row in player.happened]
            first, period = 100, self.seen_period(events, 100)
            later = events[first + period][1] - events[first][1]
            for number in (101, 10 ** 9 + 7, FAR - 1, FAR):
                turns, rest = divmod(number - first, period)
                what, tick, name = events[first + rest]
                with self.subTest(bindings=keymap.bindings, strokes=strokes, length=length, number=number):
                    self.assertEqual((what, tick + turns * later, name),
                                     repeated_event(keymap, strokes, length, number))

    def seen_period(self, events, first):
        """Return the least number of events from which on the same ones come again, as far as can be seen."""
        for period in range(1, len(events) - first):
            rows = zip(events[first:], events[first + period:])
            found = {(one[0] == other[0], one[2] == other[2], other[1] - one[1]) for one, other in rows}
            if len(found) == 1 and found.pop()[:2] == (True, True) and first + 3 * period < len(events):
                return period
        return self.fail("nothing is seen to come again")


class WrongArgumentsTest(Checks):
    def check_both(self, error, attributes, strokes, length, number):
        with self.subTest(strokes=str(strokes)[:50], length=length, number=number):
            self.check_raises(error, attributes, count_repeated, KEYMAP, strokes, length, number)
            self.check_raises(error, attributes, repeated_event, KEYMAP, strokes, length, number)

    def test_invalid_strokes(self):
        self.check_both(InvalidStrokes, {"index": 1}, [(3, "a"), (2, "a")], 5, 1)
        self.check_both(InvalidStrokes, {"index": 300}, [(0, "a")] * 301, 5, 1)
        for odd in ODD_VALUES:
            if odd != []:
                self.check_both(InvalidStrokes, {"index": 0}, odd, 5, 1)
            self.check_both(InvalidStrokes, {"index": 0}, [odd], 5, 1)

    def test_invalid_length(self):
        for odd in ((), (5,), [], [5], "", "5", 0, -1, 10 ** 9 + 1, FAR, True, False, None):
            self.check_both(InvalidLength, {}, [], odd, 1)
            self.check_both(InvalidLength, {}, [(0, "a")], odd, 1)

    def test_length_that_is_not_greater_than_the_last_tick(self):
        for length in (1, 6, 7):
            self.check_both(InvalidLength, {}, [(0, "a"), (7, "a")], length, 1)
        for last in (10 ** 9, 10 ** 9 + 1, FAR):
            self.check_both(InvalidLength, {}, [(last, "a")], 10 ** 9, 1)
            self.check_both(InvalidLength, {}, [(last, "a")], last + 1, 1)

    def test_edges_of_the_length(self):
        self.assertEqual({"stop": 4}, count_repeated(KEYMAP, [(0, "c")], 1, 4))
        self.assertEqual({"stop": 4}, count_repeated(KEYMAP, [(7, "c")], 8, 4))
        self.assertEqual({"stop": 4}, count_repeated(KEYMAP, [(10 ** 9 - 1, "c")], 10 ** 9, 4))
        self.assertEqual(("command", 4, "stop"), repeated_event(KEYMAP, [(0, "c")], 1, 4))
        self.assertEqual(("command", 5 * 10 ** 9 - 1, "stop"), repeated_event(KEYMAP, [(10 ** 9 - 1, "c")], 10 ** 9, 4))

    def test_invalid_number(self):
        for odd in ((), (5,), [], [5], "", "5", -1, FAR + 1, 10 ** 30, True, False, None):
            self.check_both(InvalidNumber, {}, [], 1, odd)
            self.check_both(InvalidNumber, {}, [(0, "a")], 1, odd)

    def test_order(self):
        self.check_both(InvalidStrokes, {"index": 0}, None, None, None)
        self.check_both(InvalidStrokes, {"index": 0}, [None], 5, -1)
        self.check_both(InvalidStrokes, {"index": 0}, [None], 0, 1)
        self.check_both(InvalidLength, {}, [(5, "a")], 5, -1)
        self.check_both(InvalidLength, {}, [], None, None)


class PromisesForAllTest(unittest.TestCase):
    def test_arguments_are_not_modified_and_answers_are_new(self):
        strokes = [(0, "a"), (1, "c"), (4, "b")]
        first = count_repeated(KEYMAP, strokes, 9, 7)
        self.assertEqual({"go": 7, "stop": 7}, first)
        first.clear()
        self.assertEqual({"go": 7, "stop": 7}, count_repeated(KEYMAP, strokes, 9, 7))
        event = repeated_event(KEYMAP, strokes, 9, 5)
        self.assertEqual(event, repeated_event(KEYMAP, strokes, 9, 5))
        self.assertEqual([(0, "a"), (1, "c"), (4, "b")], strokes)

    def test_one_repetition_is_playing(self):
        dice = new_dice(45)
        for _ in range(40):
            keymap = chance_map(dice, "abc", 5, 20, waits=(1, 5, 9, 99), modes=("m", "n", "o", "p"))
            strokes = chance_strokes(dice, "abcd", 40, 200)
            self.assertEqual(plain_counts(play(keymap, strokes)), count_repeated(keymap, strokes, 201, 1))

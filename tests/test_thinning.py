import itertools
import unittest

from helper import ODD_VALUES, Checks, chance_map, new_dice
from keywaits.errors import UnknownBinding
from keywaits.maps import KeyMap
from keywaits.thinning import fewest_to_drop, find_chains, judge_chains, late_pairs, without_bindings

KEYMAP = KeyMap.simple(10, a="go", abc="find", c="stop")
LINE = KeyMap.simple(10, a="go", ab="two", xaby="four")
ROWS_OF_A = KeyMap.simple(10, aaa="x", a="x", aaaaaa="x", aa="x", aaaaa="x", aaaa="x")


def plain_pairs(keymap):
    """Return the late pairs by comparing key by key."""
    pairs = []
    for (one, (mode, keys, _, _)), (other, (other_mode, longer, _, _)) in itertools.product(
        enumerate(keymap.bindings), repeat=2
    ):
        ends = [at + len(keys) for at in range(len(longer)) if longer[at:at + len(keys)] == keys]
        if mode == other_mode and any(end < len(longer) for end in ends):
            pairs.append((one, other))
    return pairs


def plain_fewest(keymap):
    """Return the first of the fewest by trying all choices."""
    pairs = plain_pairs(keymap)
    for many in range(len(keymap.bindings) + 1):
        for choice in itertools.combinations(range(len(keymap.bindings)), many):
            if all(one in choice or other in choice for one, other in pairs):
                return list(choice)
    return None


class LatePairsTest(unittest.TestCase):
    def test_example(self):
        self.assertEqual([(0, 1), (0, 2), (1, 2)], late_pairs(LINE))

    def test_no_pairs(self):
        for keymap in (KeyMap.simple(9), KeyMap.simple(9, a="x"), KeyMap.simple(9, ab="x", ac="y", d="z")):
            self.assertEqual([], late_pairs(keymap))

    def test_the_last_key_of_the_other_one_does_not_count(self):
        self.assertEqual([], late_pairs(KeyMap.simple(9, b="x", ab="y", cab="z")))
        self.assertEqual([(0, 2), (1, 2)], late_pairs(KeyMap.simple(9, b="x", ab="y", abb="z")))

    def test_anywhere_ahead_of_the_last_key(self):
        self.assertEqual([(0, 1)], late_pairs(KeyMap.simple(9, bc="x", abcde="y")))
        self.assertEqual([(0, 1)], late_pairs(KeyMap.simple(9, bc="x", bcd="y")))
        self.assertEqual([(0, 1)], late_pairs(KeyMap.simple(9, bc="x", abcbc="y")))
        self.assertEqual([], late_pairs(KeyMap.simple(9, bc="x", abdc="y")))

    def test_only_within_a_mode(self):
        bindings = (("m", "a", "x", "n"), ("n", "ab", "x", "m"), ("n", "a", "x", "m"), ("m", "ab", "x", "n"))
        self.assertEqual([(0, 3), (2, 1)], late_pairs(KeyMap(("m", "n"), 9, bindings)))

    def test_also_in_modes_that_cannot_be_reached(self):
        bindings = (("n", "ab", "x", "n"), ("n", "a", "x", "n"))
        self.assertEqual([(1, 0)], late_pairs(KeyMap(("m", "n"), 9, bindings)))

    def test_order(self):
        self.assertEqual(
            [(0, 2), (0, 4), (0, 5), (1, 0), (1, 2), (1, 3), (1, 4), (1, 5), (3, 0), (3, 2), (3, 4), (3, 5), (4, 2),
             (5, 2), (5, 4)],
            late_pairs(ROWS_OF_A),
        )

    def test_against_comparing_key_by_key(self):
        dice = new_dice(31)
        for _ in range(100):
            keymap = chance_map(dice, "ab", 6, 30)
            self.assertEqual(plain_pairs(keymap), late_pairs(keymap))


class FewestToDropTest(unittest.TestCase):
    def test_example(self):
        self.assertEqual([0, 1], fewest_to_drop(KeyMap.simple(10, a="go", ab="two", xaby="four", c="stop")))

    def test_nothing_to_drop(self):
        self.assertEqual([], fewest_to_drop(KeyMap.simple(9)))
        self.assertEqual([], fewest_to_drop(KeyMap.simple(9, a="x", b="y", cd="z", ce="z")))

    def test_one_that_makes_many_late(self):
        self.assertEqual([3], fewest_to_drop(KeyMap.simple(9, ab="x", ac="x", ad="x", a="x")))

    def test_one_that_many_make_late(self):
        self.assertEqual([3], fewest_to_drop(KeyMap.simple(9, a="x", b="x", c="x", abcd="x")))

    def test_the_first_of_several(self):
        self.assertEqual([0], fewest_to_drop(KeyMap.simple(9, a="x", ab="y")))
        self.assertEqual([0], fewest_to_drop(KeyMap.simple(9, ab="x", a="y")))
        self.assertEqual([0, 1, 2, 3, 4], fewest_to_drop(ROWS_OF_A))
        # With 0, 1 is not enough: [0, 2] comes before [1, 2].
        self.assertEqual([0, 2], fewest_to_drop(KeyMap.simple(9, ab="x", a="x", cd="x", c="x")))

    def test_the_fewest_come_before_the_first(self):
        self.assertEqual([2], fewest_to_drop(KeyMap.simple(9, ab="x", ac="x", a="x")))

    def test_modes_are_dropped_from_apart(self):
        bindings = (("m", "a", "x", "m"), ("n", "ab", "x", "m"), ("n", "ac", "x", "m"), ("n", "a", "x", "m"))
        self.assertEqual([3], fewest_to_drop(KeyMap(("m", "n"), 9, bindings)))

    def test_answers_are_new(self):
        fewest_to_drop(LINE).clear()
        late_pairs(LINE).clear()
        self.assertEqual([0, 1], fewest_to_drop(LINE))

    def test_against_all_choices(self):
        dice = new_dice(32)
        for _ in range(300):
            keymap = chance_map(dice, dice.choice(("ab", "abc")), 4, 9)
            with self.subTest(keymap.bindings):
                self.assertEqual(plain_fewest(keymap), fewest_to_drop(keymap))


class ChainsTest(unittest.TestCase):
    def check_chains(self, keymap):
        chains = find_chains(keymap)
        pairs = plain_pairs(keymap)
        self.assertIs(list, chains.__class__)
        for chain in chains:
            self.assertIs(list, chain.__class__)
            self.assertTrue(chain)
            for pair in zip(chain, chain[1:]):
                self.assertIn(pair, pairs)
        numbers = sorted(number for chain in chains for number in chain)
        self.assertEqual(list(range(len(keymap.bindings))), numbers)
        dropped = fewest_to_drop(keymap)
        self.assertEqual(len(dropped), len(keymap.bindings) - len(chains))
        self.assertEqual(len(dropped), judge_chains(keymap, chains))
        self.assertEqual([], late_pairs(without_bindings(keymap, *dropped)))

    def test_example(self):
        keymap = KeyMap.simple(10, a="go", ab="two", c="stop")
        self.assertEqual(1, judge_chains(keymap, find_chains(keymap)))

    def test_no_bindings(self):
        self.assertEqual([], find_chains(KeyMap.simple(9)))

    def test_single_chains(self):
        self.assertEqual([[0], [1]], sorted(find_chains(KeyMap.simple(9, a="x", b="y"))))
        self.assertEqual([[1, 3, 0, 5, 4, 2]], find_chains(ROWS_OF_A))

    def test_answers_are_new(self):
        find_chains(LINE)[0].clear()
        self.assertEqual([[0, 1, 2]], find_chains(LINE))

    def test_small_key_maps(self):
        dice = new_dice(33)
        for _ in range(200):
            self.check_chains(chance_map(dice, dice.choice(("ab", "abc")), 5, 12))

    def test_30_bindings(self):
        dice = new_dice(34)
        rows = ["".join(row) for many in range(1, 7) for row in itertools.product("ab", repeat=many)]
        for _ in range(60):
            bindings = tuple(("m", row, "x", "m") for row in dice.sample(rows, 30))
            self.check_chains(KeyMap(("m",), 9, bindings))
        self.check_chains(KeyMap(("m",), 9, tuple(("m", row, "x", "m") for row in rows[:30])))
        self.check_chains(KeyMap(("m",), 9, tuple(("m", row, "x", "m") for row in rows[29::-1])))


class JudgeChainsTest(unittest.TestCase):
    def check_none(self, keymap, *values):
        for value in values:
            with self.subTest(value):
                self.assertIsNone(judge_chains(keymap, value))

    def test_example(self):
        keymap = KeyMap.simple(10, a="go", ab="two", c="stop")
        self.assertEqual([1, None], [judge_chains(keymap, [[0, 1], [2]]), judge_chains(keymap, [[1, 0], [2]])])

    def test_chains(self):
        expected = ((0, [[0], [1], [2]]), (1, [[0, 2], [1]]), (1, [[1, 2], [0]]), (2, [[0, 1, 2]]))
        for number, chains in expected:
            self.assertEqual(number, judge_chains(LINE, chains))
            self.assertEqual(number, judge_chains(LINE, chains[::-1]))

    def test_no_bindings(self):
        self.assertEqual(0, judge_chains(KeyMap.simple(9), []))
        self.check_none(KeyMap.simple(9), [[]], [[0]], [0], (), None, 0, "")

    def test_not_a_list(self):
        self.check_none(LINE, ([0, 1, 2],), ([0], [1], [2]), {0: 1}, "012", 0, 3, True, None, (), "")

    def test_items_that_are_not_lists(self):
        self.check_none(LINE, [(0, 1, 2)], [[0, 1], (2,)], [0, 1, 2], [[0, 1], 2], [[0, 1, 2], None], [None])
        self.check_none(LINE, [[0, 1, 2], True], [[0, 1, 2], ""], ["012"], [[0, 1], "2"], [[0, 1, 2], ()])

    def test_empty_chains(self):
        self.check_none(LINE, [[0, 1, 2], []], [[], [0, 1, 2]], [[]])

    def test_items_that_are_not_numbers(self):
        for odd in ODD_VALUES + ([0], (0,), "0", {}):
            if odd != 0 or odd is False:
                self.check_none(LINE, [[odd, 1, 2]], [[odd], [1, 2]], [[0, 1, 2], [odd]], [[0, 1, 2, odd]])
        self.check_none(LINE, [[False, True, 2]], [[0, True, 2]], [[0], [True], [2]])
        self.check_none(KeyMap.simple(9, a="x"), [[False]])

    def test_numbers_that_do_not_exist(self):
        self.check_none(LINE, [[0, 1, 2], [3]], [[0, 1, 2], [-1]], [[0, 1, -1]], [[0, 1, 2, 10 ** 30]])

    def test_missing_bindings(self):
        self.check_none(LINE, [], [[0, 1]], [[0, 2]], [[1], [2]])

    def test_repeated_bindings(self):
        self.check_none(LINE, [[0, 1, 2], [0]], [[0, 1], [1, 2]], [[0], [1], [2], [2]], [[0, 0, 1, 2]])

    def test_neighbours_that_are_not_late(self):
        self.check_none(LINE, [[1, 0, 2]], [[0, 2, 1]], [[2, 1], [0]], [[2, 1, 0]])
        bindings = (("m", "a", "x", "m"), ("n", "ab", "x", "m"))
        self.check_none(KeyMap(("m", "n"), 9, bindings), [[0, 1]], [[1, 0]])

    def test_the_argument_is_not_modified(self):
        chains = [[1, 2], [0]]
        judge_chains(LINE, chains)
        judge_chains(LINE, chains)
        self.assertEqual([[1, 2], [0]], chains)


class WithoutBindingsTest(Checks):
    def test_example(self):
        self.assertEqual((("main", "abc", "find", "main"),), without_bindings(KEYMAP, 0, 2).bindings)

    def test_the_rest_stays_as_it_is(self):
        bindings = (("m", "a", "x", "n"), ("n", "b", "y", "m"), ("n", "c", "z", "n"))
        keymap = KeyMap(("m", "n"), 7, bindings)
        self.assertEqual(KeyMap(("m", "n"), 7, bindings[:1] + bindings[2:]), without_bindings(keymap, 1))
        self.assertEqual(KeyMap(("m", "n"), 7, ()), without_bindings(keymap, 2, 0, 1))
        self.assertEqual(KeyMap(("m", "n"), 7, bindings), keymap)

    def test_no_numbers(self):
        self.assertEqual(KEYMAP, without_bindings(KEYMAP))
        self.assertEqual(KeyMap.simple(9), without_bindings(KeyMap.simple(9)))

    def test_a_number_given_twice(self):
        self.assertEqual(KEYMAP.bindings[:2], without_bindings(KEYMAP, 2, 2).bindings)

    def test_unknown_bindings(self):
        for odd in (3, -1, -3, 30, 10 ** 30, True, False, None, "0", "", (0,), [0], (), []):
            with self.subTest(odd):
                self.check_raises(UnknownBinding, {"index": odd}, without_bindings, KEYMAP, odd)
                self.check_raises(UnknownBinding, {"index": odd}, without_bindings, KEYMAP, 2, odd, 0)
        self.check_raises(UnknownBinding, {"index": 0}, without_bindings, KeyMap.simple(9), 0)

    def test_the_first_unknown_binding(self):
        self.check_raises(UnknownBinding, {"index": 7}, without_bindings, KEYMAP, 0, 7, 5, None)

    def test_numbers_without_a_text(self):
        # Python writes out no number of so many digits.
        self.check_raises(UnknownBinding, {"index": 10 ** 5000}, without_bindings, KEYMAP, 10 ** 5000)

import unittest

from helper import ODD_VALUES, Checks, chance_map, new_dice
from keywaits.codec import decode_map, decode_strokes, encode_map, encode_strokes, pack_bytes, unpack_bytes
from keywaits.errors import DecodeError, InvalidCount, InvalidStrokes
from keywaits.maps import KeyMap

LAST = 10 ** 18
LETTERS = "abcdefghijklmnopqrstuvwxyz"
SIMPLE = KeyMap.simple(20, ab="save")
# The checksums are worked out by hand: 2 * 6 + 75 = 87, then 6 * 87 + 1 = 523, less 494 is 29, and so on.
SIMPLE_BYTES = [75, 1, 4, 12, 0, 8, 13, 20, 1, 0, 2, 0, 1, 4, 18, 0, 21, 4, 0, 78]
STROKES = [(3, "a"), (900, "b")]
STROKES_BYTES = [84, 2, 3, 0, 129, 7, 1, 46]
MODAL = KeyMap(("m", "no", "ab"), 99, (("m", "z", "go", "no"), ("no", "zy", "b", "ab"), ("no", "z", "c", "m")))
MODAL_BYTES = [75, 3, 1, 12, 2, 13, 14, 2, 0, 1, 99, 3,
               0, 1, 25, 2, 6, 14, 1, 1, 2, 25, 24, 1, 1, 2, 1, 1, 25, 1, 2, 0]


def checked(values):
    """Return bytes with the checksum of all of them behind them."""
    checksum = 2
    for value in values:
        checksum = (checksum * 6 + value) % 247
    return bytes([*values, checksum])


class Wrong(Exception):
    """What the plain decoder raises, with the offset."""


class PlainDecoder:
    """A decoder of the test's own."""

    def __init__(self, data):
        self.data = data
        self.at = 0

    def take(self, allowed):
        if self.at >= len(self.data) or self.data[self.at] not in allowed:
            raise Wrong(self.at)
        self.at += 1
        return self.data[self.at - 1]

    def word(self, longest):
        return "".join([LETTERS[self.take(range(26))] for _ in range(self.take(range(1, longest + 1)))])

    def number(self, greatest):
        first, groups = self.at, [self.take(range(256))]
        while groups[-1] >= 128:
            groups.append(self.take(range(256)))
        if len(groups) > 1 and groups[-1] == 0:
            raise Wrong(self.at - 1)
        number = sum(group % 128 * 128 ** place for place, group in enumerate(groups))
        if number > greatest:
            raise Wrong(first)
        return number

    def end(self):
        self.take([checked(self.data[:self.at])[-1]])
        if self.at != len(self.data):
            raise Wrong(self.at)

    def map(self):
        self.take([75])
        modes = []
        for _ in range(self.take(range(1, 5))):
            first = self.at
            modes.append(self.word(8))
            if modes[-1] in modes[:-1]:
                raise Wrong(first)
        wait, bindings, numbers = self.take(range(1, 100)), {}, range(len(modes))
        for _ in range(self.take(range(31))):
            first = self.at
            row = (modes[self.take(numbers)], self.word(6))
            if row in bindings:
                raise Wrong(first)
            bindings[row] = (self.word(8), modes[self.take(numbers)])
        self.end()
        return KeyMap(tuple(modes), wait, tuple(row + bindings[row] for row in bindings))

    def strokes(self):
        self.take([84])
        strokes, tick = [], 0
        for _ in range(self.number(300)):
            tick += self.number(LAST - tick)
            strokes.append((tick, LETTERS[self.take(range(26))]))
        self.end()
        return strokes


class ExamplesTest(Checks):
    def test_bytes(self):
        self.assertEqual([75, 0, 255], unpack_bytes(pack_bytes([75, 0, 255])))

    def test_map(self):
        expected = (("main", "ab", "save", "main"),)
        self.assertEqual(expected, decode_map(encode_map(KeyMap.simple(20, ab="save"))).bindings)

    def test_decode_map(self):
        self.check_raises(DecodeError, {"offset": 1}, decode_map, pack_bytes([75, 5]))

    def test_strokes(self):
        self.assertEqual([(3, "a"), (900, "b")], decode_strokes(encode_strokes([(3, "a"), (900, "b")])))


class PackTest(Checks):
    def test_all_values(self):
        self.assertEqual(bytes(range(256)), pack_bytes(list(range(256))))
        self.assertEqual(list(range(256)), unpack_bytes(bytes(range(256))))
        self.assertEqual([b"", []], [pack_bytes([]), unpack_bytes(b"")])
        self.assertIs(bytes, pack_bytes([1, 2]).__class__)
        self.assertIs(list, unpack_bytes(b"ab").__class__)

    def test_values_are_not_modified(self):
        values = [7, 8]
        pack_bytes(values)
        self.assertEqual([7, 8], values)

    def test_invalid_arguments(self):
        for values in (None, True, False, 0, 5, -1, "", "ab", (), (1, 2), (300,), b"ab", b""):
            with self.subTest(values=values):
                self.check_raises(InvalidCount, {}, pack_bytes, values)

    def test_invalid_values(self):
        for value in (-1, 256, 10 ** 30, True, False, None, "", "a", "5", [], [5], (), (5,), b"a"):
            with self.subTest(value=value):
                self.check_raises(InvalidCount, {}, pack_bytes, [value])
                self.check_raises(InvalidCount, {}, pack_bytes, [0, 255, value, 7])


class EncodeTest(Checks):
    def test_by_hand(self):
        self.assertEqual(SIMPLE_BYTES, list(encode_map(SIMPLE)))
        self.assertEqual(STROKES_BYTES, list(encode_strokes(STROKES)))
        self.assertEqual([84, 0, 82], list(encode_strokes([])))
        # 75, 1, 1, 0, 1, 0: 87, 29, 175, 62, 126, 15.
        self.assertEqual([75, 1, 1, 0, 1, 0, 15], list(encode_map(KeyMap(("a",), 1, ()))))
        self.assertEqual(checked(MODAL_BYTES), encode_map(MODAL))

    def test_kinds(self):
        self.assertIs(bytes, encode_map(SIMPLE).__class__)
        self.assertIs(bytes, encode_strokes(STROKES).__class__)

    def test_groups_of_seven_bits(self):
        cases = {
            0: [0], 1: [1], 127: [127], 128: [128, 1], 129: [129, 1], 255: [255, 1], 256: [128, 2], 900: [132, 7],
            16383: [255, 127], 16384: [128, 128, 1], 16385: [129, 128, 1], 2097151: [255, 255, 127],
            2097152: [128, 128, 128, 1], 2 ** 56 - 1: [255] * 7 + [127], 2 ** 56: [128] * 8 + [1],
            LAST: [128, 128, 144, 187, 186, 214, 173, 240, 13],
        }
        for tick, groups in cases.items():
            data = checked([84, 1, *groups, 25])
            with self.subTest(tick=tick):
                self.assertEqual(data, encode_strokes([(tick, "z")]))
                self.assertEqual([(tick, "z")], decode_strokes(data))

    def test_numbers_of_strokes(self):
        for many, groups in ((127, [127]), (128, [128, 1]), (255, [255, 1]), (256, [128, 2]), (300, [172, 2])):
            strokes = [(0, "a")] * many
            data = checked([84, *groups] + [0, 0] * many)
            self.assertEqual(data, encode_strokes(strokes))
            self.assertEqual(strokes, decode_strokes(data))

    def test_ticks_count_from_the_one_before(self):
        strokes = [(5, "a"), (5, "b"), (7, "c"), (LAST - 1, "d"), (LAST, "e"), (LAST, "f")]
        values = list(encode_strokes(strokes))
        self.assertEqual([84, 6, 5, 0, 0, 1, 2, 2], values[:8])
        self.assertEqual([3, 1, 4, 0, 5], values[-6:-1])
        self.assertEqual(strokes, decode_strokes(bytes(values)))

    def test_invalid_strokes(self):
        for strokes in (None, (), "a", 5, True, b"", ((0, "a"),)):
            self.check_raises(InvalidStrokes, {"index": 0}, encode_strokes, strokes)
        for odd in ODD_VALUES + ((4, "a"), (LAST + 1, "a"), (6, "ab"), (6, "A"), (6, ""), (True, "a"), [6, "a"]):
            self.check_raises(InvalidStrokes, {"index": 1}, encode_strokes, [(5, "a"), odd])
        self.check_raises(InvalidStrokes, {"index": 300}, encode_strokes, [(5, "a")] * 301)

    def test_strokes_are_not_modified(self):
        strokes = list(STROKES)
        encode_strokes(strokes)
        self.assertEqual(STROKES, strokes)

    def test_there_and_back(self):
        dice = new_dice(91)
        for _ in range(100):
            keymap = chance_map(dice, "xyz", 6, 30, waits=(1, 50, 99), modes=("m", "n", "zzzzzzzz"))
            self.assertEqual(keymap, decode_map(encode_map(keymap)))
            ticks = sorted(dice.choice((0, 1, 127, 128, 500, 10 ** 9, LAST)) for _ in range(dice.randrange(30)))
            strokes = [(tick, dice.choice("abz")) for tick in ticks]
            self.assertEqual(strokes, decode_strokes(encode_strokes(strokes)))

    def test_kinds_of_what_is_decoded(self):
        keymap = decode_map(encode_map(SIMPLE))
        self.assertIsInstance(keymap, KeyMap)
        self.assertEqual([tuple, int, tuple], [type(part) for part in (keymap.modes, keymap.wait, keymap.bindings)])
        found = decode_strokes(encode_strokes(STROKES))
        found.append(None)
        self.assertEqual(STROKES, decode_strokes(encode_strokes(STROKES)))


class DecodeMapTest(Checks):
    def check(self, offset, values):
        with self.subTest(values=values):
            self.check_raises(DecodeError, {"offset": offset}, decode_map, bytes(values))

    def test_values_that_are_no_bytes(self):
        for value in ODD_VALUES:
            self.check_raises(DecodeError, {"offset": 0}, decode_map, value)

    def test_missing_bytes(self):
        for values in (SIMPLE_BYTES, [*checked(MODAL_BYTES)]):
            for many in range(len(values)):
                self.check(many, values[:many])

    def test_further_bytes(self):
        for more in ([0], [78], [75, 1], [255] * 5):
            self.check(len(SIMPLE_BYTES), SIMPLE_BYTES + more)

    def test_wrong_checksums(self):
        for value in range(256):
            if value != 78:
                self.check(len(SIMPLE_BYTES) - 1, SIMPLE_BYTES[:-1] + [value])
                self.check(len(SIMPLE_BYTES) - 1, SIMPLE_BYTES[:-1] + [value, 78])

    def test_first_byte(self):
        for value in (0, 74, 76, 84, 255):
            self.check(0, [value] + SIMPLE_BYTES[1:])
            self.check(0, [value])

    def test_numbers_out_of_range(self):
        # Of each offset in the bytes of MODAL: the values that do not fit there.
        wrong = {
            1: (0, 5, 255), 2: (0, 9, 255), 3: (26, 255), 4: (0, 9), 10: (0, 100, 128, 255), 11: (31, 255), 12: (3, 4),
            13: (0, 7, 8), 14: (26, 97), 15: (0, 9), 16: (26, 255), 18: (3, 255), 19: (3, 255), 20: (0, 7),
        }
        for offset, values in wrong.items():
            for value in values:
                changed = [*MODAL_BYTES[:offset], value, *MODAL_BYTES[offset + 1:]]
                self.check(offset, checked(changed))
                self.check(offset, changed[:offset + 1])

    def test_edges_of_ranges(self):
        longest = KeyMap(
            ("zzzzzzzz", "b", "c", "d"), 99,
            tuple(("d", "zzzz" + a + b, "zzzzzzzz", "d") for a in "xyz" for b in "abcdefghij"),
        )
        self.assertEqual(longest, decode_map(encode_map(longest)))
        least = KeyMap(("a",), 1, ())
        self.assertEqual(least, decode_map(encode_map(least)))

    def test_a_mode_once_more(self):
        self.check(4, [75, 2, 1, 0, 1, 0])
        self.check(7, checked([75, 3, 1, 0, 2, 0, 1, 2, 0, 1, 5, 0]))
        # First the whole word is read.
        self.check(5, [75, 2, 1, 0, 1])
        self.check(6, [75, 2, 2, 0, 1, 2, 26, 1])
        self.assertEqual(("a", "ab"), decode_map(checked([75, 2, 1, 0, 2, 0, 1, 5, 0])).modes)

    def test_a_binding_once_more(self):
        head = [75, 2, 1, 0, 1, 1, 5, 2, 0, 2, 3, 4, 1, 9, 0]
        self.check(15, head + [0, 2, 3, 4])
        self.check(15, checked(head + [0, 2, 3, 4, 1, 9, 0]))
        self.check(15, head + [0, 2, 3, 4, 0, 77])
        # First its keys are read.
        self.check(18, head + [0, 2, 3])
        self.check(18, head + [0, 2, 3, 26])
        found = decode_map(checked(head + [1, 2, 3, 4, 1, 9, 1])).bindings
        self.assertEqual((("a", "de", "j", "a"), ("b", "de", "j", "b")), found)
        found = decode_map(checked(head + [0, 1, 3, 1, 9, 1])).bindings
        self.assertEqual((("a", "de", "j", "a"), ("a", "d", "j", "b")), found)

    def test_the_first_error_from_left_to_right(self):
        self.check(3, [75, 1, 1, 99, 0, 0, 0])
        self.check(4, checked([75, 1, 1, 0, 100, 31]))
        self.check(1, [75, 9, 75])


class DecodeStrokesTest(Checks):
    def check(self, offset, values):
        with self.subTest(values=values):
            self.check_raises(DecodeError, {"offset": offset}, decode_strokes, bytes(values))

    def test_values_that_are_no_bytes(self):
        for value in ODD_VALUES:
            self.check_raises(DecodeError, {"offset": 0}, decode_strokes, value)

    def test_missing_bytes(self):
        for many in range(len(STROKES_BYTES)):
            self.check(many, STROKES_BYTES[:many])
        self.check(3, [84, 128, 128])

    def test_further_bytes(self):
        for more in ([0], [46], [255] * 5):
            self.check(len(STROKES_BYTES), STROKES_BYTES + more)

    def test_wrong_checksums(self):
        for value in range(256):
            if value != 46:
                self.check(7, STROKES_BYTES[:-1] + [value])
                self.check(7, STROKES_BYTES[:-1] + [value, 46])

    def test_first_byte(self):
        for value in (0, 75, 83, 85, 255):
            self.check(0, [value] + STROKES_BYTES[1:])

    def test_keys(self):
        for value in (26, 97, 128, 255):
            self.check(3, checked([84, 1, 5, value]))
            self.check(3, [84, 1, 5, value])

    def test_last_bytes_that_are_0(self):
        self.check(2, checked([84, 128, 0]))
        self.check(2, [84, 129, 0])
        self.check(3, [84, 129, 128, 0])
        self.check(3, checked([84, 1, 133, 0, 0]))
        self.check(6, [84, 1, 133, 255, 255, 128, 0])
        # Even if the number is too great.
        self.check(14, [84, 1] + [255] * 12 + [0])
        self.assertEqual([(0, "a")], decode_strokes(checked([84, 1, 0, 0])))

    def test_more_than_300_strokes(self):
        self.check(1, [84, 173, 2])
        self.check(1, checked([84, 173, 2] + [0, 0] * 301))
        self.check(1, [84, 128, 128, 1])
        self.check(1, [84] + [255] * 20 + [1])
        # First the whole number is read.
        self.check(4, [84, 255, 255, 255])
        self.check(3, [84, 255, 255])
        self.check(3, [84, 172, 2])

    def test_ticks_that_are_too_great(self):
        greatest = [128, 128, 144, 187, 186, 214, 173, 240, 13]
        self.assertEqual([(LAST, "a")], decode_strokes(checked([84, 1, *greatest, 0])))
        self.check(2, [84, 1, 129, *greatest[1:]])
        self.check(2, checked([84, 1, 129, *greatest[1:], 0]))
        self.check(2, [84, 1] + [255] * 20 + [1])
        # The sum of two is too great.
        self.check(4, [84, 2, 1, 0, *greatest])
        self.check(14, [84, 3, *greatest, 0, 0, 1, 1])
        self.assertEqual(2, len(decode_strokes(checked([84, 2, *greatest, 0, 0, 1]))))
        # First the whole number is read.
        self.check(11, [84, 1] + [255] * 9)


class PlainDecoderTest(unittest.TestCase):
    def outcome(self, data, decode, encode):
        """Return what is decoded, or the offset of the error; what is decoded is encoded to the same bytes."""
        try:
            found = decode(data)
        except DecodeError as error:
            return "error", error.offset
        self.assertEqual(data, encode(found))
        return "value", found

    def plain_outcome(self, decode):
        try:
            return "value", decode()
        except Wrong as error:
            return "error", error.args[0]

    def compare(self, data, what):
        if what == "map":
            found = self.outcome(data, decode_map, encode_map)
            expected = self.plain_outcome(PlainDecoder(data).map)
        else:
            found = self.outcome(data, decode_strokes, encode_strokes)
            expected = self.plain_outcome(PlainDecoder(data).strokes)
        self.assertEqual(expected, found)
        return found[0]

    def change_all(self, data, what):
        """Compare with each byte changed to all values, removed, and with one more, checksum corrected and not."""
        right = 0
        for at in range(len(data)):
            for value in range(256):
                changed = [*data[:at], value, *data[at + 1:]]
                self.compare(bytes(changed), what)
                right += self.compare(checked(changed[:-1]), what) == "value"
            for changed in ([*data[:at], *data[at + 1:]], [*data[:at], 0, *data[at:]], [*data[:at], 129, *data[at:]]):
                self.compare(bytes(changed), what)
                self.compare(checked(changed), what)
                self.compare(checked(changed[:-1]), what)
        return right

    def test_maps(self):
        keymap = KeyMap(("m", "mn"), 9, (("m", "a", "go", "mn"), ("mn", "ab", "x", "m"), ("m", "ab", "y", "m")))
        self.assertLess(200, self.change_all(encode_map(keymap), "map"))
        self.assertLess(200, self.change_all(encode_map(SIMPLE), "map"))
        self.change_all(encode_map(KeyMap(("a",), 1, ())), "map")

    def test_strokes(self):
        self.assertLess(200, self.change_all(encode_strokes(STROKES), "strokes"))
        self.change_all(encode_strokes([]), "strokes")
        self.change_all(encode_strokes([(300, "a"), (300, "z"), (LAST, "b")]), "strokes")

    def test_several_changes(self):
        dice = new_dice(92)
        for what in ("map", "strokes"):
            right = 0
            for _ in range(2000):
                if what == "map":
                    values = [*encode_map(chance_map(dice, "abc", 2, 4, waits=(1, 99)))]
                else:
                    ticks = sorted(dice.choice((0, 1, 127, 128, 20000)) for _ in range(dice.randrange(5)))
                    values = [*encode_strokes([(tick, dice.choice("abz")) for tick in ticks])]
                for _ in range(dice.randrange(3)):
                    at = dice.randrange(len(values))
                    values[at:at + dice.randrange(2)] = [dice.choice((0, 1, 2, 3, 128, 255))] * dice.randrange(2)
                self.compare(bytes(values), what)
                right += self.compare(checked(values[:-1]), what) == "value"
            self.assertLess(700, right)
            self.assertGreater(1500, right)

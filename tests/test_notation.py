import re
import unittest

from helper import ODD_VALUES, Checks, chance_map, new_dice
from keywaits.errors import InvalidMap, InvalidStrokes, NotationError
from keywaits.maps import KeyMap
from keywaits.notation import format_map, format_strokes, parse_map, parse_strokes

KEYMAP = KeyMap(
    ("main", "ins"),
    10,
    (("main", "a", "one", "main"), ("main", "ab", "two", "ins"), ("ins", "x", "esc", "main")),
)
TEXT = "modes main ins\nwait 10\nbind main a one main\nbind main ab two ins\nbind ins x esc main"
STROKES = [(0, "a"), (0, "b"), (7, "a"), (10 ** 18, "z"), (10 ** 18, "z")]
STROKES_TEXT = "0 ab\n7 a\n1000000000000000000 zz"
LAST = 10 ** 18
# Words that are no words of letters a to z, and words that are no integers of the form.
NO_NAMES = (
    "", "A", "aB", "a1", "1", "-", "a-b", "a\t", "\ta", "a\r", "\u00e4", "a\u00e9", "\u0430", "a\x0bb", "\u2028",
)
NO_INTEGERS = (
    "", "a", "07", "00", "01", "-5", "-0", "+5", "5.0", "1_0", "0x5", "5a", "5\t", "\u0665", "5\u00b2", "\uff15",
    "0" * 19, "1" * 20, "9" * 25, "0" + "1" * 19,
)


class ExamplesTest(Checks):
    def test_format_map(self):
        self.assertEqual("modes main\nwait 20\nbind main ab save main", format_map(KeyMap.simple(20, ab="save")))

    def test_parse_map(self):
        self.check_raises(NotationError, {"row": 1, "word": 1}, parse_map, "modes main\nwait 07")

    def test_strokes(self):
        found = [format_strokes([(0, "a"), (0, "b"), (7, "a")]), parse_strokes("3 ab")]
        self.assertEqual(["0 ab\n7 a", [(3, "a"), (3, "b")]], found)


class FormatMapTest(unittest.TestCase):
    def test_all_parts(self):
        self.assertEqual(TEXT, format_map(KEYMAP))

    def test_no_bindings(self):
        self.assertEqual("modes a b c d\nwait 99", format_map(KeyMap(("a", "b", "c", "d"), 99, ())))

    def test_there_and_back(self):
        dice = new_dice(81)
        for _ in range(100):
            keymap = chance_map(dice, "xyz", 6, 30, waits=(1, 50, 99))
            self.assertEqual(keymap, parse_map(format_map(keymap)))
        thirty = tuple(("m", a + b, "go", "m") for a in "abc" for b in "abcdefghij")
        self.assertEqual(thirty, parse_map(format_map(KeyMap(("m",), 1, thirty))).bindings)


class ParseMapTest(Checks):
    def check(self, row, word, text):
        with self.subTest(text=text):
            self.check_raises(NotationError, {"row": row, "word": word}, parse_map, text)

    def test_a_text(self):
        keymap = parse_map(TEXT)
        self.assertEqual(KEYMAP, keymap)
        self.assertIsInstance(keymap, KeyMap)
        self.assertEqual([tuple, tuple, int], [type(part) for part in (keymap.modes, keymap.bindings, keymap.wait)])
        self.assertTrue(all(isinstance(binding, tuple) for binding in keymap.bindings))
        self.assertEqual(KeyMap(("m",), 1, ()), parse_map("modes m\nwait 1"))

    def test_the_text_is_put_out_again(self):
        for text in (TEXT, "modes m\nwait 1", "modes modes wait bind\nwait 9\nbind wait bind bind modes"):
            self.assertEqual(text, format_map(parse_map(text)))

    def test_empty_texts(self):
        self.check(0, 0, "")
        self.check(0, 0, " ")
        self.check(0, 0, "\n")
        self.check(0, 0, "\n" + TEXT)

    def test_values_that_are_no_texts(self):
        for value in ODD_VALUES:
            if not isinstance(value, str):
                self.check(0, 0, value)

    def test_first_words(self):
        rows = TEXT.split("\n")
        for number, row in enumerate(rows):
            head = row.split(" ")[0]
            others = {"modes", "wait", "bind", "Modes", "WAIT", "bin", "binds", "", "\tbind", "mode", "a"} - {head}
            for other in sorted(others):
                changed = [*rows[:number], row.replace(head, other, 1), *rows[number + 1:]]
                self.check(number, 0, "\n".join(changed))
            self.check(number, 0, "\n".join([*rows[:number], " " + row, *rows[number + 1:]]))
            self.check(number, 0, "\n".join([*rows[:number], "", *rows[number + 1:]]))
            self.check(number, 0, "\n".join([*rows[:number], " ", *rows[number + 1:]]))

    def test_words_that_are_wrong(self):
        rows = TEXT.split("\n")
        for number, row in enumerate(rows):
            words = row.split(" ")
            for place in range(1, len(words)):
                for wrong in NO_INTEGERS if number == 1 else NO_NAMES:
                    changed = [*words[:place], wrong, *words[place + 1:]]
                    self.check(number, place, "\n".join([*rows[:number], " ".join(changed), *rows[number + 1:]]))

    def test_the_first_wrong_word_of_the_first_wrong_row(self):
        self.check(2, 2, "modes m\nwait 5\nbind m A B m\nbind A")
        self.check(2, 3, "modes m\nwait 5\nbind m a B")
        self.check(2, 5, "modes m\nwait 5\nbind m a b m m m\nbin m")
        self.check(1, 1, "modes m\nwait x y\nbind")
        self.check(0, 2, "modes m M\nwait 07")
        self.check(3, 1, "modes m\nwait 5\nbind m a b m\nbind")

    def test_superfluous_words(self):
        rows = TEXT.split("\n")
        for number, row in list(enumerate(rows))[1:]:
            for more in (" a", " 5", " ", "  ", " A b"):
                changed = [*rows[:number], row + more, *rows[number + 1:]]
                self.check(number, len(row.split(" ")), "\n".join(changed))

    def test_empty_words_at_each_place(self):
        rows = TEXT.split("\n")
        for number, row in enumerate(rows):
            words = row.split(" ")
            for place in range(len(words) + 1):
                changed = [*words[:place], "", *words[place:]]
                self.check(number, place, "\n".join([*rows[:number], " ".join(changed), *rows[number + 1:]]))

    def test_rows_that_end_too_early(self):
        rows = TEXT.split("\n")
        for number, row in enumerate(rows):
            words = row.split(" ")
            for many in range(1, len(words)):
                if number > 0 or many == 1:
                    changed = [*rows[:number], " ".join(words[:many]), *rows[number + 1:]]
                    self.check(number, many, "\n".join(changed))

    def test_a_missing_row(self):
        self.check(1, 0, "modes main ins")
        self.check(1, 0, "modes main ins\n")
        self.check(1, 0, "modes main ins\nbind main a one main")
        self.check(0, 1, "modes")
        self.check(0, 1, "modes ")
        self.check(0, 0, "wait 5")

    def test_superfluous_rows(self):
        self.check(5, 0, TEXT + "\n")
        self.check(5, 0, TEXT + "\n\n")
        self.check(2, 0, "modes m\nwait 5\nwait 5")
        self.check(2, 0, "modes m\nwait 5\nmodes n")

    def test_other_white_space(self):
        self.check(0, 1, "modes main\r\nwait 10")
        self.check(0, 0, "modes\tmain\nwait 10")
        self.check(0, 1, "modes main\u2028wait 10")
        self.check(0, 1, "modes main\x0bwait 10")
        self.check(1, 1, "modes main\nwait 10\r\nbind")
        self.check(1, 1, "modes main\nwait 10\x0c")

    def test_numbers(self):
        for number in ("1", "9", "10", "99"):
            self.assertEqual(int(number), parse_map("modes m\nwait " + number).wait)
        for number in ("0", "100", "1" * 18, "1" * 19, "9" * 19, "1" + "0" * 18):
            with self.subTest(number):
                self.check_raises(InvalidMap, {"part": "wait", "index": 0}, parse_map, "modes m\nwait " + number)
        for number in NO_INTEGERS:
            self.check(1, 1, "modes m\nwait " + number)

    def test_invalid_maps(self):
        def check(part, index, text):
            with self.subTest(text=text):
                self.check_raises(InvalidMap, {"part": part, "index": index}, parse_map, text)

        check("modes", 0, "modes zzzzzzzzz\nwait 5")
        check("modes", 2, "modes a b a\nwait 0")
        check("modes", 4, "modes a b c d e\nwait 5")
        check("modes", 1, "modes a " + "b" * 5000 + "\nwait 5")
        check("wait", 0, "modes a\nwait 100\nbind b b b b")
        check("bindings", 0, "modes a\nwait 5\nbind b b b a")
        check("bindings", 1, "modes a\nwait 5\nbind a b b a\nbind a a b b")
        check("bindings", 0, "modes a\nwait 5\nbind a zzzzzzz b a")
        check("bindings", 0, "modes a\nwait 5\nbind a z zzzzzzzzz a")
        check("bindings", 1, "modes a\nwait 5\nbind a b b a\nbind a b c a")
        rows = [f"bind a a{x}{y} b a" for x in "abcd" for y in "abcdefghij"]
        check("bindings", 30, "\n".join(["modes a", "wait 5", *rows]))
        check("modes", 0, "modes " + "wait" * 3 + "\nwait 0\nbind a b c d")

    def test_notation_errors_come_first(self):
        self.check(1, 1, "modes a a\nwait 05")
        self.check(2, 0, "modes zzzzzzzzz\nwait 100\nbin")
        self.check(3, 4, "modes a\nwait 100\nbind b b b b\nbind a a a A")


class FormatStrokesTest(Checks):
    def test_strokes(self):
        self.assertEqual("", format_strokes([]))
        self.assertEqual("0 a", format_strokes([(0, "a")]))
        self.assertEqual(STROKES_TEXT, format_strokes(STROKES))
        self.assertEqual("5 ba", format_strokes([(5, "b"), (5, "a")]))
        self.assertEqual("5 " + "q" * 300, format_strokes([(5, "q")] * 300))

    def test_invalid_strokes(self):
        for strokes in (None, (), "0 a", 5, True, ((0, "a"),)):
            self.check_raises(InvalidStrokes, {"index": 0}, format_strokes, strokes)
        for odd in ODD_VALUES + ((4, "a"), (LAST + 1, "a"), (6, "ab"), (6, "A"), (6, ""), (True, "a"), [6, "a"]):
            self.check_raises(InvalidStrokes, {"index": 1}, format_strokes, [(5, "a"), odd])
        self.check_raises(InvalidStrokes, {"index": 300}, format_strokes, [(5, "a")] * 301)

    def test_strokes_are_not_modified(self):
        strokes = list(STROKES)
        format_strokes(strokes)
        self.assertEqual(STROKES, strokes)


class ParseStrokesTest(Checks):
    def check(self, row, word, text):
        with self.subTest(text=text):
            self.check_raises(NotationError, {"row": row, "word": word}, parse_strokes, text)

    def test_strokes(self):
        self.assertEqual([], parse_strokes(""))
        self.assertEqual(STROKES, parse_strokes(STROKES_TEXT))
        self.assertEqual([(0, "z"), (0, "y"), (0, "z"), (1, "a")], parse_strokes("0 zyz\n1 a"))

    def test_returned_lists_are_new(self):
        parse_strokes("").append(None)
        parse_strokes("3 a").append(None)
        self.assertEqual([[], [(3, "a")]], [parse_strokes(""), parse_strokes("3 a")])

    def test_there_and_back(self):
        dice = new_dice(82)
        for _ in range(100):
            ticks = sorted(dice.choice((0, 1, 2, 3, 500, 10 ** 9, LAST)) for _ in range(dice.randrange(20)))
            strokes = [(tick, dice.choice("abz")) for tick in ticks]
            self.assertEqual(strokes, parse_strokes(format_strokes(strokes)))
            text = format_strokes(strokes)
            self.assertEqual(text, format_strokes(parse_strokes(text)))

    def test_values_that_are_no_texts(self):
        for value in ODD_VALUES:
            if not isinstance(value, str):
                self.check(0, 0, value)

    def test_wrong_ticks(self):
        for wrong in NO_INTEGERS:
            self.check(0, 0, wrong + " a")
            self.check(1, 0, "0 a\n" + wrong + " a\n3 A")
            self.check(0, 0, wrong + " A b")
        for text in ("5 a\n5 b", "5 a\n4 b", "5 a\n0 b", "5 ab\n5"):
            self.check(1, 0, text)
        self.check(2, 0, "5 a\n10 a\n9 a")
        self.check(2, 0, "5 a\n10 a\n6 A b")
        self.check(1, 0, "1000000000000000000 a\n999999999999999999 a")
        self.check(1, 0, "9999999999999999999 a\n9999999999999999999 a")

    def test_wrong_keys(self):
        for wrong in NO_NAMES:
            self.check(0, 1, "5 " + wrong)
            self.check(1, 1, "0 a\n5 " + wrong + " a")
        self.check(0, 1, "5")
        self.check(1, 1, "4 a\n5\n5 a")

    def test_superfluous_words(self):
        for more in (" a", " ", "  ", " 5", " A"):
            self.check(0, 2, "5 ab" + more)
            self.check(1, 2, "0 a\n5 ab" + more + "\n4")

    def test_empty_words_and_rows(self):
        self.check(0, 0, " ")
        self.check(0, 0, " 5 a")
        self.check(0, 1, "5  a")
        self.check(0, 0, "\n")
        self.check(0, 0, "\n5 a")
        self.check(1, 0, "5 a\n")
        self.check(1, 0, "5 a\n\n6 a")

    def test_the_first_wrong_row(self):
        self.check(1, 1, "5 a\n6 A\n6 a\n7")
        self.check(0, 1, "5 A b\n05 a")

    def test_invalid_strokes(self):
        def check(index, text):
            self.check_raises(InvalidStrokes, {"index": index}, parse_strokes, text)

        check(0, "1000000000000000001 a")
        check(0, "9999999999999999999 ab")
        check(2, "5 a\n1000000000000000000 a\n1000000000000000001 ab")
        check(300, "0 " + "a" * 301)
        check(300, "\n".join(f"{tick} aa" for tick in range(151)))
        self.assertEqual(300, len(parse_strokes("\n".join(f"{tick} aa" for tick in range(150)))))

    def test_notation_errors_come_first(self):
        self.check(1, 0, "1000000000000000001 a\n5 a")
        self.check(1, 1, "0 " + "a" * 301 + "\n5")


class PlainNotationTest(Checks):
    """Rows judged by patterns, for texts made by chance of right and wrong words."""

    def pattern(self, row, number):
        if number == 0:
            return ("modes", "wait", "bind")[min(row, 2)]
        if row == 1:
            return "0|[1-9][0-9]{0,18}" if number == 1 else "(?!)"
        return "[a-z]+" if row == 0 or number < 5 else "(?!)"

    def first_wrong(self, text):
        rows = text.split("\n")
        for row, line in enumerate(rows):
            words = line.split(" ")
            for number, word in enumerate(words):
                if not re.fullmatch(self.pattern(row, number), word):
                    return {"row": row, "word": number}
            if len(words) < (5 if row > 1 else 2):
                return {"row": row, "word": len(words)}
        return {"row": 1, "word": 0} if len(rows) == 1 else None

    def test_many_texts(self):
        dice = new_dice(83)
        words = ["modes", "wait", "bind", "m", "n", "7", "07", "", "M"]
        wrong = 0
        for _ in range(3000):
            rows = [["modes", "m", "n"], ["wait", "7"], ["bind", "m", "a", "go", "n"], ["bind", "n", "b", "go", "n"]]
            for _ in range(dice.randrange(3)):
                row = dice.choice(rows)
                change = dice.randrange(3)
                place = dice.randrange(len(row) + 1)
                row[place:place + dice.randrange(2)] = [dice.choice(words)] if change else []
            text = "\n".join(" ".join(row) for row in rows[:dice.choice((1, 4, 4, 4))])
            expected = self.first_wrong(text)
            if expected is not None:
                wrong += 1
                self.check_raises(NotationError, expected, parse_map, text)
            else:
                try:
                    self.assertEqual(text, format_map(parse_map(text)))
                except InvalidMap:
                    pass
        self.assertLess(1000, wrong)

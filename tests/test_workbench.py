import types
import unittest

from helper import ODD_VALUES, Checks, new_dice
from keywaits.errors import (
    InvalidBinding, InvalidMode, InvalidOperation, InvalidWait, LastMode, MapError, TooManyBindings, TooManyModes,
    UnknownBinding, UnknownMode,
)
from keywaits.maps import KeyMap
from keywaits.workbench import Workbench

ROWS = (("main", "a", "one", "main"), ("main", "ab", "two", "ins"), ("ins", "x", "esc", "main"))
KEYMAP = KeyMap(("main", "ins"), 10, ROWS)
THIRTY = tuple(("m", first + second, "go", "m") for first in "abc" for second in "abcdefghij")
ARGUMENTS = {
    "add_binding": (("ins", "y", "yes", "ins"),), "remove_binding": (0,), "change_command": (0, "uno"),
    "change_target": (0, "ins"), "add_mode": ("vis",), "remove_mode": ("ins",), "set_wait": (5,),
}
# Tuples of a method, arguments with which it raises an error, this error and its attributes.
FAILING = (
    ("add_binding", (ROWS[0],), InvalidBinding, {}), ("remove_binding", (3,), UnknownBinding, {"index": 3}),
    ("change_command", (-1, "go"), UnknownBinding, {"index": -1}), ("change_target", (0, "vis"), InvalidBinding, {}),
    ("add_mode", ("ins",), InvalidMode, {}), ("remove_mode", ("main",), LastMode, {}),
    ("set_wait", (100,), InvalidWait, {}),
)


def bindings_of(workbench):
    return workbench.present_map.bindings


def state_of(workbench):
    return workbench.present_map, workbench.history, list(workbench.versions())


def redone(workbench):
    """Redo all that can be redone, and return how the workbench was in between."""
    states = [state_of(workbench)]
    while workbench.redo():
        states.append(state_of(workbench))
    return states


class ExamplesTest(Checks):
    def test_bindings(self):
        workbench = Workbench(KEYMAP)
        found = [
            workbench.add_binding(("ins", "y", "yes", "ins")), workbench.change_command(0, "uno"),
            workbench.remove_binding(1),
        ]
        self.assertEqual([3, "one", ("main", "ab", "two", "ins")], found)

    def test_invalid_binding(self):
        self.check_raises(InvalidBinding, {}, Workbench(KEYMAP).add_binding, ("main", "a", "again", "main"))

    def test_modes_and_wait(self):
        workbench = Workbench(KEYMAP)
        found = [
            workbench.add_mode("vis"), workbench.remove_mode("ins"), workbench.set_wait(5), workbench.present_map.modes,
        ]
        removed = [("main", "ab", "two", "ins"), ("ins", "x", "esc", "main")]
        self.assertEqual([3, removed, 10, ("main", "vis")], found)

    def test_last_mode(self):
        self.check_raises(LastMode, {}, Workbench(KEYMAP).remove_mode, "main")

    def test_apply(self):
        workbench = Workbench(KEYMAP)
        found = [workbench.apply(("set_wait", 5), ("set_wait", 6)), workbench.undo()]
        self.assertEqual([[10, 5], True, [10, 5]], found + [[other.wait for other in workbench.versions()]])

    def test_replay(self):
        operations = [("set_wait", 5), ("set_wait",)]
        self.check_raises(InvalidOperation, {"index": 1}, Workbench.replay, KEYMAP, operations)


class NewWorkbenchTest(unittest.TestCase):
    def test_properties(self):
        workbench = Workbench(KEYMAP)
        self.assertEqual((KEYMAP, [], [KEYMAP]), state_of(workbench))
        self.assertIsInstance(workbench.present_map, KeyMap)

    def test_nothing_to_undo(self):
        workbench = Workbench(KEYMAP)
        self.assertIs(False, workbench.undo())
        self.assertIs(False, workbench.redo())
        self.assertEqual((KEYMAP, [], [KEYMAP]), state_of(workbench))

    def test_the_given_key_map_does_not_change(self):
        one, other = Workbench(KEYMAP), Workbench(KEYMAP)
        for name, arguments in ARGUMENTS.items():
            getattr(one, name)(*arguments)
        self.assertEqual((("main", "ins"), 10, ROWS), (KEYMAP.modes, KEYMAP.wait, KEYMAP.bindings))
        self.assertEqual((KEYMAP, [], [KEYMAP]), state_of(other))


class AddBindingTest(Checks):
    def test_at_the_end(self):
        workbench = Workbench(KEYMAP)
        self.assertEqual(3, workbench.add_binding(("main", "x", "go", "main")))
        self.assertEqual(4, workbench.add_binding(("ins", "a", "go", "ins")))
        self.assertEqual(ROWS + (("main", "x", "go", "main"), ("ins", "a", "go", "ins")), bindings_of(workbench))
        self.assertEqual((("main", "ins"), 10), (workbench.present_map.modes, workbench.present_map.wait))

    def test_the_first_one(self):
        self.assertEqual(0, Workbench(KeyMap(("m",), 9, ())).add_binding(("m", "a", "go", "m")))

    def test_edges_of_lengths(self):
        workbench = Workbench(KEYMAP)
        self.assertEqual(3, workbench.add_binding(("main", "zzzzzz", "zzzzzzzz", "main")))
        self.assertEqual(4, workbench.add_binding(("main", "z", "z", "main")))
        for keys, command in (("zzzzzzz", "go"), ("", "go"), ("y", "zzzzzzzzz"), ("y", "")):
            self.check_raises(InvalidBinding, {}, workbench.add_binding, ("main", keys, command, "main"))

    def test_arguments_of_wrong_kinds(self):
        workbench = Workbench(KEYMAP)
        wrong = ODD_VALUES + (
            ("main", "y", "go"), ("main", "y", "go", "main", "main"), ["main", "y", "go", "main"], "main",
        )
        for binding in wrong:
            with self.subTest(binding=binding):
                self.check_raises(InvalidBinding, {}, workbench.add_binding, binding)
        for odd in ODD_VALUES:
            for place in range(4):
                binding = ("main", "y", "go", "ins")[:place] + (odd,) + ("main", "y", "go", "ins")[place + 1:]
                with self.subTest(binding=binding):
                    self.check_raises(InvalidBinding, {}, workbench.add_binding, binding)
        for binding in (("vis", "y", "go", "main"), ("main", "y", "go", "vis"), ("main", "yY", "go", "main")):
            self.check_raises(InvalidBinding, {}, workbench.add_binding, binding)
        self.assertEqual((KEYMAP, [], [KEYMAP]), state_of(workbench))

    def test_the_same_mode_and_keys(self):
        workbench = Workbench(KEYMAP)
        for mode, keys, _, _ in ROWS:
            self.check_raises(InvalidBinding, {}, workbench.add_binding, (mode, keys, "other", "main"))
        workbench.remove_binding(0)
        self.assertEqual(2, workbench.add_binding(("main", "a", "other", "main")))
        self.check_raises(InvalidBinding, {}, workbench.add_binding, ("main", "a", "one", "main"))

    def test_thirty_bindings(self):
        workbench = Workbench(KeyMap(("m",), 9, THIRTY[:-1]))
        self.assertEqual(29, workbench.add_binding(THIRTY[-1]))
        before = state_of(workbench)
        self.check_raises(TooManyBindings, {}, workbench.add_binding, ("m", "z", "go", "m"))
        self.check_raises(InvalidBinding, {}, workbench.add_binding, THIRTY[4])
        self.check_raises(InvalidBinding, {}, workbench.add_binding, ("n", "z", "go", "m"))
        self.check_raises(InvalidBinding, {}, workbench.add_binding, None)
        self.assertEqual(before, state_of(workbench))
        workbench.remove_binding(3)
        self.assertEqual(29, workbench.add_binding(("m", "z", "go", "m")))


class RemoveBindingTest(Checks):
    def test_each_binding(self):
        for index in range(3):
            workbench = Workbench(KEYMAP)
            self.assertEqual(ROWS[index], workbench.remove_binding(index))
            self.assertEqual(ROWS[:index] + ROWS[index + 1:], bindings_of(workbench))

    def test_numbers_after_a_removal(self):
        workbench = Workbench(KEYMAP)
        found = [workbench.remove_binding(1), workbench.remove_binding(1), workbench.remove_binding(0)]
        self.assertEqual([ROWS[1], ROWS[2], ROWS[0]], found)
        self.assertEqual((), bindings_of(workbench))
        self.check_raises(UnknownBinding, {"index": 0}, workbench.remove_binding, 0)

    def test_unknown_bindings(self):
        workbench = Workbench(KEYMAP)
        for index in (3, -1, 10 ** 30, "0", None, [], (), [0]):
            self.check_raises(UnknownBinding, {"index": index}, workbench.remove_binding, index)
        for index in (True, False):
            with self.assertRaises(UnknownBinding) as caught:
                workbench.remove_binding(index)
            self.assertIs(index, caught.exception.index)
        self.assertEqual((KEYMAP, [], [KEYMAP]), state_of(workbench))


class ChangeTest(Checks):
    def test_change_command(self):
        workbench = Workbench(KEYMAP)
        found = [
            workbench.change_command(2, "zzzzzzzz"), workbench.change_command(2, "z"), workbench.change_command(0, "z"),
        ]
        self.assertEqual(["esc", "zzzzzzzz", "one"], found)
        expected = (("main", "a", "z", "main"), ROWS[1], ("ins", "x", "z", "main"))
        self.assertEqual(expected, bindings_of(workbench))

    def test_change_target(self):
        workbench = Workbench(KEYMAP)
        found = [
            workbench.change_target(2, "ins"), workbench.change_target(1, "main"), workbench.change_target(1, "ins"),
        ]
        self.assertEqual(["main", "ins", "main"], found)
        self.assertEqual((ROWS[0], ROWS[1], ("ins", "x", "esc", "ins")), bindings_of(workbench))

    def test_the_same_once_more(self):
        workbench = Workbench(KEYMAP)
        self.assertEqual(["one", "main"], [workbench.change_command(0, "one"), workbench.change_target(0, "main")])
        self.assertEqual([("change_command", 0, "one"), ("change_target", 0, "main")], workbench.history)

    def test_invalid_commands(self):
        workbench = Workbench(KEYMAP)
        for command in ODD_VALUES + ("zzzzzzzzz", "go on", "g0", "Go", ("go",), "\u00e4"):
            with self.subTest(command=command):
                self.check_raises(InvalidBinding, {}, workbench.change_command, 0, command)
        self.assertEqual((KEYMAP, [], [KEYMAP]), state_of(workbench))

    def test_invalid_targets(self):
        workbench = Workbench(KEYMAP)
        for target in ODD_VALUES + ("vis", "mai", "ain", "Main", ("main",), ["main"]):
            with self.subTest(target=target):
                self.check_raises(InvalidBinding, {}, workbench.change_target, 0, target)
        self.assertEqual((KEYMAP, [], [KEYMAP]), state_of(workbench))

    def test_unknown_bindings_come_first(self):
        workbench = Workbench(KEYMAP)
        for index in (3, -1, "0", None, []):
            for part in ("main", "", None, 7):
                self.check_raises(UnknownBinding, {"index": index}, workbench.change_command, index, part)
                self.check_raises(UnknownBinding, {"index": index}, workbench.change_target, index, part)
        with self.assertRaises(UnknownBinding):
            workbench.change_command(True, "go")
        with self.assertRaises(UnknownBinding):
            workbench.change_target(False, "main")


class AddModeTest(Checks):
    def test_at_the_end(self):
        workbench = Workbench(KEYMAP)
        self.assertEqual(3, workbench.add_mode("zzzzzzzz"))
        self.assertEqual(4, workbench.add_mode("a"))
        expected = KeyMap(("main", "ins", "zzzzzzzz", "a"), 10, ROWS)
        self.assertEqual(expected, workbench.present_map)
        self.assertEqual(3, workbench.add_binding(("a", "b", "go", "zzzzzzzz")))

    def test_invalid_modes(self):
        workbench = Workbench(KEYMAP)
        for mode in ODD_VALUES + ("zzzzzzzzz", "a b", "a1", "Main", "main", "ins", ("vis",), ["vis"], "\u00e4"):
            with self.subTest(mode=mode):
                self.check_raises(InvalidMode, {}, workbench.add_mode, mode)
        self.assertEqual((KEYMAP, [], [KEYMAP]), state_of(workbench))

    def test_four_modes(self):
        workbench = Workbench(KeyMap(("m", "n", "o", "p"), 9, ()))
        self.check_raises(TooManyModes, {}, workbench.add_mode, "q")
        self.check_raises(InvalidMode, {}, workbench.add_mode, "p")
        self.check_raises(InvalidMode, {}, workbench.add_mode, "Q")
        self.check_raises(InvalidMode, {}, workbench.add_mode, None)
        workbench.remove_mode("n")
        self.assertEqual(4, workbench.add_mode("q"))
        self.assertEqual(("m", "o", "p", "q"), workbench.present_map.modes)


class RemoveModeTest(Checks):
    def test_bindings_with_the_mode_or_target(self):
        rows = (
            ("m", "a", "go", "n"), ("n", "a", "go", "m"), ("m", "b", "go", "o"), ("n", "b", "go", "n"),
            ("o", "a", "go", "n"), ("o", "n", "n", "m"), ("m", "n", "n", "m"),
        )
        workbench = Workbench(KeyMap(("m", "n", "o"), 7, rows))
        self.assertEqual([rows[0], rows[1], rows[3], rows[4]], workbench.remove_mode("n"))
        self.assertEqual(KeyMap(("m", "o"), 7, (rows[2], rows[5], rows[6])), workbench.present_map)
        self.assertEqual(rows[5], workbench.remove_binding(1))

    def test_no_bindings_with_it(self):
        workbench = Workbench(KEYMAP)
        workbench.add_mode("vis")
        self.assertEqual([], workbench.remove_mode("vis"))
        self.assertEqual(KEYMAP, workbench.present_map)

    def test_unknown_modes(self):
        workbench = Workbench(KEYMAP)
        for mode in ODD_VALUES + ("vis", "mai", "Main", ("main",), ["ins"]):
            with self.subTest(mode=mode):
                self.check_raises(UnknownMode, {}, workbench.remove_mode, mode)
        workbench.remove_mode("ins")
        self.check_raises(UnknownMode, {}, workbench.remove_mode, "ins")
        self.check_raises(LastMode, {}, workbench.remove_mode, "main")

    def test_the_first_mode_stays_however_many_there_are(self):
        for many in range(1, 5):
            workbench = Workbench(KeyMap(("m", "n", "o", "p")[:many], 9, ()))
            self.check_raises(LastMode, {}, workbench.remove_mode, "m")
            self.assertEqual([], workbench.history)

    def test_the_returned_list_is_not_kept(self):
        workbench = Workbench(KEYMAP)
        workbench.remove_mode("ins").clear()
        workbench.undo()
        workbench.redo()
        workbench.undo()
        self.assertEqual([ROWS[1], ROWS[2]], workbench.remove_mode("ins"))


class SetWaitTest(Checks):
    def test_the_former_wait(self):
        workbench = Workbench(KEYMAP)
        self.assertEqual([10, 1, 99, 99], [workbench.set_wait(wait) for wait in (1, 99, 99, 50)])
        self.assertEqual(KEYMAP.with_wait(50), workbench.present_map)

    def test_invalid_waits(self):
        workbench = Workbench(KEYMAP)
        for wait in ODD_VALUES + (100, "5", [5], (5,)):
            with self.subTest(wait=wait):
                self.check_raises(InvalidWait, {}, workbench.set_wait, wait)
        self.assertEqual((KEYMAP, [], [KEYMAP]), state_of(workbench))


class UndoTest(Checks):
    def test_all_operations_back_and_again(self):
        workbench = Workbench(KEYMAP)
        states = [state_of(workbench)]
        for name, arguments in ARGUMENTS.items():
            getattr(workbench, name)(*arguments)
            states.append(state_of(workbench))
            self.assertEqual((name,) + arguments, workbench.history[-1])
            self.assertEqual([state[0] for state in states], list(workbench.versions()))
        for _ in range(2):
            for state in states[-2::-1]:
                self.assertIs(True, workbench.undo())
                self.assertEqual(state, state_of(workbench))
            self.assertIs(False, workbench.undo())
            self.assertEqual(states, redone(workbench))
            self.assertIs(False, workbench.redo())

    def test_each_operation_cancels_redo(self):
        for name, arguments in ARGUMENTS.items():
            workbench = Workbench(KEYMAP)
            workbench.set_wait(20)
            workbench.set_wait(30)
            workbench.undo()
            workbench.undo()
            getattr(workbench, name)(*arguments)
            with self.subTest(name):
                self.assertIs(False, workbench.redo())
                self.assertEqual([(name,) + arguments], workbench.history)
                self.assertEqual([True, False], [workbench.undo(), workbench.undo()])
                self.assertEqual([True, False], [workbench.redo(), workbench.redo()])

    def test_an_operation_that_raises_cancels_nothing(self):
        workbench = Workbench(KEYMAP)
        workbench.set_wait(20)
        workbench.set_wait(30)
        workbench.undo()
        before = state_of(workbench)
        for name, arguments, error, attributes in FAILING:
            self.check_raises(error, attributes, getattr(workbench, name), *arguments)
            self.assertEqual(before, state_of(workbench))
        self.assertTrue(workbench.redo())
        self.assertEqual(30, workbench.present_map.wait)
        self.assertEqual([True, True, False], [workbench.undo(), workbench.undo(), workbench.undo()])


class ApplyTest(Checks):
    def test_no_operations(self):
        workbench = Workbench(KEYMAP)
        workbench.set_wait(20)
        workbench.undo()
        self.assertEqual([], workbench.apply())
        self.assertEqual((KEYMAP, [], [KEYMAP]), state_of(workbench))
        self.assertTrue(workbench.redo())

    def test_one_operation(self):
        for name, arguments in ARGUMENTS.items():
            one, other = Workbench(KEYMAP), Workbench(KEYMAP)
            result = getattr(one, name)(*arguments)
            self.assertEqual([result], other.apply((name,) + arguments))
            self.assertEqual(state_of(one), state_of(other))
            self.assertEqual([True, False], [other.undo(), other.undo()])

    def test_many_operations(self):
        workbench = Workbench(KEYMAP)
        operations = [(name,) + arguments for name, arguments in ARGUMENTS.items()]
        results = workbench.apply(*operations)
        removed = [("main", "ab", "uno", "ins"), ("ins", "x", "esc", "main"), ("ins", "y", "yes", "ins")]
        self.assertEqual([3, ROWS[0], "two", "ins", 3, removed, 10], results)
        self.assertEqual(operations, workbench.history)
        self.assertEqual(KeyMap(("main", "vis"), 5, ()), workbench.present_map)

    def test_each_operation_is_undone_by_itself(self):
        workbench = Workbench(KEYMAP)
        workbench.apply(("set_wait", 5), ("add_mode", "vis"), ("set_wait", 6))
        waits = []
        while workbench.undo():
            waits.append(workbench.present_map.wait)
        self.assertEqual([5, 5, 10], waits)
        self.assertEqual(4, len(redone(workbench)))

    def test_apply_cancels_redo(self):
        workbench = Workbench(KEYMAP)
        workbench.set_wait(20)
        workbench.undo()
        workbench.apply(("set_wait", 5))
        self.assertFalse(workbench.redo())

    def test_invalid_operations(self):
        workbench = Workbench(KEYMAP)
        workbench.set_wait(20)
        workbench.set_wait(30)
        workbench.undo()
        before = state_of(workbench)
        wrong = list(ODD_VALUES) + [
            ("set_wait",), ("set_wait", 5, 6), ["set_wait", 5], "set_wait", ("setwait", 5), ("undo",), ("redo",),
            ("apply", ("set_wait", 5)), ("replay", KEYMAP, []), ("versions",), ("history",), ("present_map",), ((), 1),
            ([], 1), (None, 1), (True, 1), (5, 5), (("set_wait", 5),), ("remove_binding", 0, 0), ("change_command", 0),
            ("change_command", 0, "go", "go"), ("change_target", "ins"), ("add_mode",), ("remove_mode", "ins", "ins"),
            ("add_binding",) + ROWS[0], ("__init__", KEYMAP), ("_past", 1), ("", 1), (["set_wait"], 5),
        ]
        for operation in wrong:
            with self.subTest(operation=operation):
                self.check_raises(InvalidOperation, {"index": 0}, workbench.apply, operation)
                self.check_raises(
                    InvalidOperation, {"index": 2}, workbench.apply, ("set_wait", 1), ("set_wait", 2), operation, None,
                )
                # Before anything is executed, so before the error of an operation ahead of it.
                self.check_raises(InvalidOperation, {"index": 1}, workbench.apply, ("set_wait", 0), operation)
        self.assertEqual(before, state_of(workbench))
        self.assertTrue(workbench.redo())
        self.assertFalse(workbench.redo())

    def test_invalid_arguments_have_the_right_form(self):
        for odd in ODD_VALUES:
            self.check_raises(InvalidWait, {}, Workbench(KEYMAP).apply, ("set_wait", odd))
            self.check_raises(InvalidBinding, {}, Workbench(KEYMAP).apply, ("change_command", 0, odd))

    def test_errors_in_the_middle(self):
        for name, arguments, error, attributes in FAILING:
            workbench = Workbench(KEYMAP)
            workbench.apply(("set_wait", 20), ("set_wait", 30), ("set_wait", 40))
            workbench.undo()
            workbench.undo()
            before = state_of(workbench)
            self.check_raises(
                error, attributes, workbench.apply,
                ("set_wait", 7), ("change_command", 0, "first"), (name,) + arguments, ("set_wait", 8),
            )
            with self.subTest(name):
                self.assertEqual(before, state_of(workbench))
                self.assertEqual([20, 30, 40], [state[0].wait for state in redone(workbench)])
                for wait in (30, 20, 10):
                    self.assertTrue(workbench.undo())
                    self.assertEqual(wait, workbench.present_map.wait)
                self.assertFalse(workbench.undo())

    def test_operations_see_those_before(self):
        workbench = Workbench(KEYMAP)
        results = workbench.apply(
            ("add_mode", "vis"), ("add_binding", ("vis", "a", "go", "vis")), ("change_command", 3, "stop"),
            ("remove_mode", "vis"),
        )
        self.assertEqual([3, 3, "go", [("vis", "a", "stop", "vis")]], results)
        self.assertEqual(KEYMAP, workbench.present_map)
        self.check_raises(UnknownMode, {}, workbench.apply, ("remove_mode", "ins"), ("remove_mode", "ins"))

    def test_thirty_bindings_on_the_way(self):
        workbench = Workbench(KeyMap(("m",), 9, ()))
        operations = [("add_binding", binding) for binding in THIRTY]
        more = ("add_binding", ("m", "z", "go", "m"))
        self.check_raises(TooManyBindings, {}, workbench.apply, *operations, more)
        self.assertEqual((), bindings_of(workbench))
        self.assertEqual(list(range(30)), workbench.apply(*operations))

    def test_returned_lists_are_not_kept(self):
        workbench = Workbench(KEYMAP)
        results = workbench.apply(("set_wait", 5), ("remove_mode", "ins"))
        results[1].clear()
        results.clear()
        workbench.history.clear()
        self.assertEqual([("set_wait", 5), ("remove_mode", "ins")], workbench.history)
        self.assertEqual([ROWS[0]], list(bindings_of(workbench)))
        workbench.undo()
        self.assertEqual(ROWS, bindings_of(workbench))


class VersionsTest(unittest.TestCase):
    def test_it_is_a_generator(self):
        self.assertIsInstance(Workbench(KEYMAP).versions(), types.GeneratorType)

    def test_only_operations_in_effect(self):
        workbench = Workbench(KEYMAP)
        workbench.apply(("set_wait", 5), ("set_wait", 6))
        self.assertEqual([KEYMAP, KEYMAP.with_wait(5), KEYMAP.with_wait(6)], list(workbench.versions()))
        workbench.undo()
        self.assertEqual([KEYMAP, KEYMAP.with_wait(5)], list(workbench.versions()))
        workbench.set_wait(7)
        self.assertEqual([10, 5, 7], [keymap.wait for keymap in workbench.versions()])

    def test_the_caller_may_go_on_in_between(self):
        workbench = Workbench(KEYMAP)
        workbench.set_wait(5)
        found = []
        for keymap in workbench.versions():
            found.append(keymap.wait)
            workbench.set_wait(50 + len(found))
        self.assertEqual([10, 5], found)
        self.assertEqual([10, 5, 51, 52], [keymap.wait for keymap in workbench.versions()])


class ReplayTest(Checks):
    def test_a_history(self):
        workbench = Workbench(KEYMAP)
        workbench.apply(*[(name,) + arguments for name, arguments in ARGUMENTS.items()])
        other = Workbench.replay(KEYMAP, workbench.history)
        self.assertIs(Workbench, other.__class__)
        self.assertEqual(state_of(workbench), state_of(other))
        self.assertFalse(other.redo())
        for _ in ARGUMENTS:
            self.assertTrue(other.undo())
        self.assertFalse(other.undo())

    def test_no_operations(self):
        self.assertEqual((KEYMAP, [], [KEYMAP]), state_of(Workbench.replay(KEYMAP, [])))

    def test_errors(self):
        for name, arguments, error, attributes in FAILING:
            operations = [("set_wait", 7), (name,) + arguments]
            self.check_raises(error, attributes, Workbench.replay, KEYMAP, operations)
        for odd in ODD_VALUES:
            operations = [("set_wait", 0), ("set_wait", 7), odd]
            self.check_raises(InvalidOperation, {"index": 2}, Workbench.replay, KEYMAP, operations)

    def test_operations_that_are_no_list(self):
        for operations in (None, 5, True, "", "set_wait", (), (("set_wait", 7),)):
            self.check_raises(InvalidOperation, {"index": 0}, Workbench.replay, KEYMAP, operations)

    def test_operations_are_neither_modified_nor_kept(self):
        operations = [("set_wait", 7), ("add_mode", "vis")]
        workbench = Workbench.replay(KEYMAP, operations)
        self.assertEqual([("set_wait", 7), ("add_mode", "vis")], operations)
        operations.clear()
        self.assertEqual([("set_wait", 7), ("add_mode", "vis")], workbench.history)


class PlainWorkbench:
    """A workbench of the test's own: parts of a key map in lists, and copies of them for undo."""

    def __init__(self, keymap):
        self.parts = ([*keymap.modes], keymap.wait, [*keymap.bindings])
        self.past, self.future = [], []

    def keymap(self):
        modes, wait, rows = self.parts
        return KeyMap(tuple(modes), wait, tuple(rows))

    def execute(self, name, arguments):
        """Return the result of an operation, or None, which no operation returns, if it is an error."""
        modes, wait, rows = [*self.parts[0]], self.parts[1], [*self.parts[2]]
        try:
            result, wait = self.change(name, arguments, modes, wait, rows)
            KeyMap(tuple(modes), wait, tuple(rows))
        except (IndexError, ValueError):
            return None
        self.past.append(self.parts)
        self.future = []
        self.parts = (modes, wait, rows)
        return result

    def change(self, name, arguments, modes, wait, rows):
        if name == "add_binding":
            rows.append(arguments[0])
            return len(rows) - 1, wait
        if name == "remove_binding":
            return rows.pop(arguments[0]), wait
        if name.startswith("change_"):
            row = list(rows[arguments[0]])
            place = 2 if name == "change_command" else 3
            former, row[place] = row[place], arguments[1]
            rows[arguments[0]] = tuple(row)
            return former, wait
        if name == "add_mode":
            modes.append(arguments[0])
            return len(modes), wait
        if name == "remove_mode":
            if modes.index(arguments[0]) == 0:
                raise IndexError
            removed = [row for row in rows if arguments[0] in (row[0], row[3])]
            rows[:] = [row for row in rows if row not in removed]
            modes.remove(arguments[0])
            return removed, wait
        return wait, arguments[0]

    def step(self, here, there):
        if not here:
            return False
        there.append(self.parts)
        self.parts = here.pop()
        return True


class PlainWorkbenchTest(unittest.TestCase):
    def operation(self, dice):
        modes, commands = ("main", "ins", "vis", "o", "p", "q"), ("go", "stop", "", "B")
        binding = tuple(dice.choice(part) for part in (modes, ("a", "b", "ab", "c", "7"), commands, modes))
        return dice.choice((
            ("add_binding", binding), ("add_binding", binding), ("remove_binding", dice.randrange(5)),
            ("change_command", dice.randrange(5), dice.choice(commands)),
            ("change_target", dice.randrange(5), dice.choice(modes)), ("add_mode", dice.choice(modes)),
            ("remove_mode", dice.choice(modes)), ("set_wait", dice.choice((0, 1, 5, 99, 100))),
        ))

    def test_many_operations(self):
        dice = new_dice(71)
        for _ in range(80):
            workbench, plain = Workbench(KEYMAP), PlainWorkbench(KEYMAP)
            for _ in range(40):
                choice = dice.randrange(5)
                if choice == 0:
                    self.assertEqual(plain.step(plain.past, plain.future), workbench.undo())
                elif choice == 1:
                    self.assertEqual(plain.step(plain.future, plain.past), workbench.redo())
                else:
                    operation = self.operation(dice)
                    try:
                        found = getattr(workbench, operation[0])(*operation[1:])
                    except MapError:
                        found = None
                    self.assertEqual(plain.execute(operation[0], operation[1:]), found)
                self.assertEqual(plain.keymap(), workbench.present_map)
                self.assertEqual(len(plain.past), len(workbench.history))
                self.assertEqual(state_of(workbench), state_of(Workbench.replay(KEYMAP, workbench.history)))

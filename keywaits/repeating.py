"""Repeated strokes: how often commands fire, and which event has a number."""

from keywaits.errors import InvalidLength, InvalidNumber
from keywaits.kinds import is_number
from keywaits.player import Player, check_strokes

GREATEST_LENGTH = 10 ** 9
GREATEST_NUMBER = 10 ** 18


class Course:
    """What happens when strokes are repeated, up to the repetition from which on everything comes again.

    Right after the last stroke of a repetition, the fed tick is the tick of this stroke. So what comes behind
    depends on the mode and the waiting keys alone, and it comes again once they do.
    """

    def __init__(self, keymap, strokes, length):
        player = Player(keymap)
        self.states = []
        self.begins = []
        numbers = {}
        while player.state not in numbers:
            repetition = len(self.states)
            numbers[player.state] = repetition
            self.states.append(player.state)
            self.begins.append(len(player.happened))
            for tick, key in strokes:
                player.press(repetition * length + tick, key)
        self.happened = player.happened
        self.first_again = numbers[player.state]


def _check(strokes, length, number):
    check_strokes(strokes)
    least = strokes[-1][0] + 1 if strokes else 1
    if not is_number(length, least, GREATEST_LENGTH):
        raise InvalidLength("the length is not an integer behind the last tick, from 1 to 10 ** 9")
    if not is_number(number, 0, GREATEST_NUMBER):
        raise InvalidNumber("the number is not an integer from 0 to 10 ** 18")


def _tail(keymap, state):
    """Return what happens when all waits pass from a state on."""
    player = Player(keymap)
    player.state = state
    player.let_all_pass()
    return player.happened


def _count_commands(counts, happened, times):
    """Count the commands among what has happened so many times."""
    for what, _, name, _ in happened:
        if what == "command":
            counts[name] = counts.get(name, 0) + times


def _place(number, first, end):
    """Return how often what is between first and end has come again before a number, and the place there."""
    if number < end:
        return 0, number
    turns, rest = divmod(number - first, end - first)
    return turns, first + rest


def count_repeated(keymap, strokes, length, times):
    """Return the dict of how often each command fires if strokes are repeated so many times."""
    _check(strokes, length, times)
    course = Course(keymap, strokes, length)
    turns, last = _place(times, course.first_again, len(course.states))
    counts = {}
    _count_commands(counts, course.happened[:course.begins[last]], 1)
    if turns > 0:
        _count_commands(counts, course.happened[course.begins[course.first_again]:], turns)
    _count_commands(counts, _tail(keymap, course.states[last]), 1)
    return {name: counts[name] for name in sorted(counts)}


def repeated_event(keymap, strokes, length, number):
    """Return the event with a number if strokes are repeated for ever, or None if there are not so many."""
    _check(strokes, length, number)
    course = Course(keymap, strokes, length)
    if not course.happened:
        return None
    turns, at = _place(number, course.begins[course.first_again], len(course.happened))
    what, tick, name, _ = course.happened[at]
    later = turns * (len(course.states) - course.first_again) * length
    return (what, tick + later, name)

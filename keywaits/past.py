"""The past of boards and workbenches: what can be taken back and repeated."""


class Past:
    """The states up to the present one, and those that were taken back since a state was new."""

    def __init__(self, first):
        self.states = [first]
        self._undone = []

    def go_on(self, state):
        """Make a new state the present one."""
        self.states.append(state)
        self._undone = []

    def step_back(self):
        """Take back the present state; return False if it is the first one."""
        if len(self.states) == 1:
            return False
        self._undone.append(self.states.pop())
        return True

    def step_forward(self):
        """Make the state that was taken back last the present one again; return False if there is none."""
        if not self._undone:
            return False
        self.states.append(self._undone.pop())
        return True

    def copied(self):
        """Return the same past, which goes on by itself."""
        other = Past(self.states[0])
        other.states = list(self.states)
        other._undone = list(self._undone)
        return other

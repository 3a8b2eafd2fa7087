"""Stages: fields whose threads do steps that can be undone."""

from coveredcells.errors import NoDeed
from coveredcells.runs import after, check_thread


class Stage:
    """A field, and the state to which the deeds have led it."""

    def __init__(self, field):
        self._field = field
        # Pairs of the run of a deed and the state behind it.
        self._deeds = []
        self._undone = []

    @property
    def field(self):
        """Return the field."""
        return self._field

    def state(self):
        """Return the state as it is now."""
        return self._deeds[-1][1] if self._deeds else self._field.start()

    def run(self):
        """Return the list of the threads that have done the steps from the first state to it."""
        return [thread for run, _ in self._deeds for thread in run]

    def inside(self):
        """Return the ascending list of the threads that are inside."""
        return self._field.inside(self.state())

    def step(self, thread):
        """Do a step of a thread, and return the state."""
        check_thread(self._field, thread)
        return self.do([thread])

    def do(self, run):
        """Do a run as one deed, and return the state."""
        state = after(self._field, run, self.state())
        self._deeds.append((tuple(run), state))
        self._undone = []
        return state

    def undo(self):
        """Undo what was done last, and return the state."""
        if not self._deeds:
            raise NoDeed()
        self._undone.append(self._deeds.pop())
        return self.state()

    def again(self):
        """Do again what was undone last, and return the state."""
        if not self._undone:
            raise NoDeed()
        self._deeds.append(self._undone.pop())
        return self.state()

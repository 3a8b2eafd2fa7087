"""Watching: the states that can be behind the worths that are seen."""

from coveredcells.errors import BadSeen, NoDeed
from coveredcells.forms import is_list, is_whole


def are_worths(field, value):
    """Tell whether any object is a list of worths, one for each cell of a field."""
    if not is_list(value) or len(value) != len(field.cells):
        return False
    return all([is_whole(worth) for worth in value])


def wrong_sight(field, seen):
    """Return the index that BadSeen has for any object in the place of what is seen, None if it is right."""
    if not is_list(seen) or len(seen) == 0:
        return 0
    for index, worths in enumerate(seen):
        if not are_worths(field, worths):
            return index
    return None


def at_first(field, worths):
    """Return the list of the states that can be if these worths are seen at first."""
    return [field.start()] if field.start()[1] == worths else []


def behind_step(field, states, worths):
    """Return the ascending list of the states that can be if these worths are seen behind a step from some states.

    All of these show the same worths, so that where a thread comes to depends on its row alone.
    """
    goals = {}
    found = set()
    for state in states:
        numbers = state[0]
        for thread, number in enumerate(numbers):
            if (thread, number) not in goals:
                reached, shown = field.step(state, thread)
                goals[thread, number] = reached[thread] if shown == worths else None
            goal = goals[thread, number]
            if goal is not None:
                found.add((numbers[:thread] + (goal,) + numbers[thread + 1:], worths))
    return sorted(found)


def can_be(field, seen):
    """Return the ascending list of the states that can be behind what is seen, empty if it cannot be seen."""
    wrong = wrong_sight(field, seen)
    if wrong is not None:
        raise BadSeen(wrong)
    states = at_first(field, tuple(seen[0]))
    for worths in seen[1:]:
        states = behind_step(field, states, tuple(worths))
    return states


class Watch:
    """Watches the cells of a field, from its first state on."""

    def __init__(self, field):
        worths = field.start()[1]
        self._field = field
        # Pairs of the worths that were seen, and the states that can be behind them.
        self._sights = [(worths, at_first(field, worths))]
        self._undone = []

    @property
    def field(self):
        """Return the field."""
        return self._field

    def see(self, worths):
        """Go on with the worths behind a step, and return whether this can be."""
        if not are_worths(self._field, worths):
            raise BadSeen(len(self._sights))
        shown = tuple(worths)
        states = behind_step(self._field, self._sights[-1][1], shown)
        self._sights.append((shown, states))
        self._undone = []
        return len(states) > 0

    def seen(self):
        """Return the list of what was seen, tuples of worths."""
        return [worths for worths, _ in self._sights]

    def states(self):
        """Return the ascending list of the states that can be."""
        return list(self._sights[-1][1])

    def _all_inside(self):
        """Return the lists of the threads that are inside, for all states that can be."""
        return [self._field.inside(state) for state in self._sights[-1][1]]

    def surely(self):
        """Return the ascending list of the threads that are inside in all states that can be, if any can be."""
        inside = self._all_inside()
        if not inside:
            return []
        return [thread for thread in inside[0] if all([thread in threads for threads in inside])]

    def perhaps(self):
        """Return the ascending list of the threads that are inside in some state that can be."""
        return sorted({thread for threads in self._all_inside() for thread in threads})

    def undo(self):
        """Undo what was seen last."""
        if len(self._sights) == 1:
            raise NoDeed()
        self._undone.append(self._sights.pop())

    def again(self):
        """See again what was undone last."""
        if not self._undone:
            raise NoDeed()
        self._sights.append(self._undone.pop())

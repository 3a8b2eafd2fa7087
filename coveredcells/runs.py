"""Runs, and what they lead to: clashes, standstills and covers."""

from coveredcells.errors import BadCount, BadRun, BadThread
from coveredcells.forms import is_list, is_number


def check_thread(field, thread):
    """Raise BadThread with any object that is not a thread of a field."""
    if not is_number(thread, len(field)):
        raise BadThread(thread)


def wrong_index(field, run):
    """Return the index that BadRun has for any object in the place of a run, None if it is right."""
    if not is_list(run):
        return 0
    for index, thread in enumerate(run):
        if not is_number(thread, len(field)):
            return index
    return None


def check_runs(field, runs):
    """Raise BadRun for the first of some objects that is no run of a field."""
    for run in runs:
        index = wrong_index(field, run)
        if index is not None:
            raise BadRun(index)


def after(field, run, state=None):
    """Return the state behind a run, from a state on, or from the first state on."""
    check_runs(field, [run])
    if state is None:
        state = field.start()
    # A run of no step leads to the very state, which may have been passed as lists.
    state = (tuple(state[0]), tuple(state[1]))
    for thread in run:
        state = field.step(state, thread)
    return state


def is_clash(field, run):
    """Tell whether a run leads from the first state to a clash."""
    return len(field.inside(after(field, run))) > 1


def is_standstill(field, run, ring):
    """Tell whether a run and a ring are a standstill."""
    check_runs(field, [run, ring])
    first = after(field, run)
    state = first
    for thread in ring:
        if field.inside(state):
            return False
        state = field.step(state, thread)
    if state != first or len(ring) == 0:
        return False
    resting = field.resting(first)
    return all([(thread in ring) != (thread in resting) for thread in range(len(field))])


def is_cover(field, count, run, twin):
    """Tell whether two runs are a cover for a number of threads."""
    if not is_number(count, len(field) + 1):
        raise BadCount(count)
    check_runs(field, [run, twin])
    if any([thread >= count for thread in [*run, *twin]]):
        return False
    covering = after(field, run)
    still = after(field, twin)
    writing = field.writing(covering)
    cells = [writing[thread] for thread in range(count) if thread in writing]
    if len(set(cells)) != count or len(field.resting(still)) != len(field):
        return False
    return covering[1] == still[1]

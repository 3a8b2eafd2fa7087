"""Covers and foils, which are built without a search, as point 10 of the document tells."""

from coveredcells.errors import BadCount, Enough
from coveredcells.forms import is_number
from coveredcells.runs import after


def go_alone(field, state, thread, has_come):
    """Let a thread go alone until it has come to a state of which a function tells that it is far enough.

    Returns its run, the state behind it, and an empty ring; or, if it never comes so far, the run to a ring, the state
    behind it, and the ring.
    """
    run = []
    met = {}
    while state not in met:
        met[state] = len(run)
        state = field.step(state, thread)
        run.append(thread)
        if has_come(state):
            return run, state, []
    return run[:met[state]], state, run[met[state]:]


def go_ahead(field, state, thread, cells):
    """Let a thread that is at rest go alone until it is inside, or about to write a cell beyond some cells."""
    seen = [None, *cells]
    return go_alone(field, state, thread, lambda place: (
        thread in field.inside(place) or field.writing(place).get(thread) not in seen))


def go_to_rest(field, state, thread):
    """Let a thread that is not at rest go alone until it is, or is inside beside another one."""
    return go_alone(field, state, thread, lambda place: (
        thread in field.resting(place) or len(field.inside(place)) > 1))


def go_home(field, state, threads):
    """Let threads go, one behind another, until they are at rest, or any two are inside.

    Returns their run, the state behind it, and an empty ring; or, if they never come so far, the run to a ring, the
    state behind it, and the ring. No thread begins anew, so each comes inside once at most: none does so in a ring.
    """
    run = []
    met = {}
    while state not in met:
        resting = field.resting(state)
        moving = [thread for thread in threads if thread not in resting]
        if not moving or len(field.inside(state)) > 1:
            return run, state, []
        met[state] = len(run)
        # Each thread goes on until it goes round alone: if all took single steps by turns, and went round by different
        # numbers of steps, it could be very long until all of them are again where they have been.
        for thread in moving:
            steps, state, ring = go_to_rest(field, state, thread)
            run.extend(steps + ring)
            if len(field.inside(state)) > 1:
                break
    return run[:met[state]], state, run[met[state]:]


def go_on(field, state, hidden, threads):
    """Let threads do a step each, which hides all that the run of another one has written, and go on from there.

    Returns a clash or a standstill, whose run goes on from the state, or ("still", run) if all threads come to rest.
    """
    run, last, ring = go_home(field, after(field, [*hidden, *threads], state), threads)
    if ring:
        # The ring does not need the thread that is hidden, and must not have it: it is to be at rest there.
        return "standstill", threads + run, ring
    if len(field.inside(last)) > 1:
        return "clash", hidden + threads + run
    return "still", threads + run


def behind(run, outcome):
    """Return an outcome that was found behind a run, with this run ahead of its own."""
    word, first, *rest = outcome
    return word, run + first, *rest


def built(field, state, count):
    """Return an outcome whose runs go from a still state on; a cover is one for so many threads."""
    if count == 0:
        return "cover", [], []
    thread = count - 1
    path = []
    # What the thread does alone where the threads ahead of it cover some cells, and how many steps are ahead of that.
    known = {}
    while True:
        outcome = built(field, state, thread)
        if outcome[0] != "cover":
            return behind(path, outcome)
        _, run, twin = outcome
        covering = after(field, run, state)
        cells = tuple(sorted(field.writing(covering).values()))
        run = path + run
        if cells in known:
            steps, alone = known[cells]
            return "cover", run[:steps] + alone + run[steps:], path + twin
        alone, reached, ring = go_ahead(field, covering, thread, cells)
        if ring:
            # The twin's state has the same worths, so that the thread does the same where all others are at rest.
            return "standstill", path + twin + alone, ring
        if thread in field.inside(reached):
            return behind(run, go_on(field, covering, alone, list(range(thread)) or [1]))
        known[cells] = (len(run), alone)
        outcome = go_on(field, covering, [], list(range(thread)))
        if outcome[0] != "still":
            return behind(run, outcome)
        path = run + outcome[1]
        state = after(field, outcome[1], covering)


def cover(field, count):
    """Return a cover of a field for a number of threads, or a clash or a standstill that comes in its place."""
    if not is_number(count, len(field) + 1) or len(field) == 1:
        raise BadCount(count)
    return built(field, field.start(), count)


def foil(field):
    """Return a clash or a standstill of a field with fewer cells than threads."""
    if len(field) == 1 or len(field.cells) >= len(field):
        raise Enough(len(field.cells))
    # No cell is left that one thread more than there are cells could cover.
    return built(field, field.start(), len(field.cells) + 1)

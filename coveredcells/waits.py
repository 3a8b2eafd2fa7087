"""Waits: how long threads go alone, and how often they are passed over."""

from coveredcells.errors import BadSteps
from coveredcells.forms import is_number
from coveredcells.runs import check_thread
from coveredcells.search import graph_of, parts_of, within

MOST_STEPS = 20


def steps_inside(field, state, thread, known):
    """Return the number of steps by which a thread, alone, comes inside from a state, None if it never does.

    The dict `known` has the numbers for states from which others have been asked for, and is filled up.
    """
    path = []
    while state not in known and thread not in field.inside(state):
        # It stands if the thread comes back here, round about.
        known[state] = None
        path.append(state)
        state = field.step(state, thread)
    steps = known.get(state, 0)
    if steps is None:
        return None
    for place in reversed(path):
        steps += 1
        known[place] = steps
    return steps


def alone(field, thread):
    """Return the greatest number of steps up to a thread's coming inside alone, None if it once never does."""
    check_thread(field, thread)
    known = {}
    most = 0
    for state in graph_of(field):
        if len(field.resting(state)) == len(field):
            steps = steps_inside(field, state, thread, known)
            if steps is None:
                return None
            most = max(most, steps)
    return most


def spread(graph, states, is_gone):
    """Return the list of the states that are come to from some, by steps of which a function tells that they are gone.

    The function takes the thread of a step and the state behind it.
    """
    met = {state: True for state in states}
    ahead = list(met)
    while ahead:
        state = ahead.pop()
        for thread, follower in graph[state]:
            if follower not in met and is_gone(thread, follower):
                met[follower] = True
                ahead.append(follower)
    return list(met)


def waiting_behind(field, graph, thread, steps):
    """Return the graph of what may be, behind so many steps of a thread since it has begun, until it comes inside."""
    there = {state: True for state in graph if thread in field.inside(state)}
    states = [state for state in graph if thread in field.resting(state)]
    for _ in range(steps):
        behind = [graph[state][thread][1] for state in states]
        waiting = [state for state in behind if state not in there]
        states = spread(graph, waiting, lambda mover, follower: mover != thread)
    return within(graph, spread(graph, states, lambda mover, follower: follower not in there))


def most_entries(field, graph):
    """Return how often threads come inside at most by steps of a graph, None if there is no greatest number."""
    most = {}
    for part in reversed(parts_of(graph)):
        entries = 0
        for state in part:
            for thread, follower in graph[state]:
                entry = 1 if thread in field.inside(follower) else 0
                # What the part leads to has its number already; what has none leads back to this state.
                if follower in most:
                    entries = max(entries, entry + most[follower])
                elif entry > 0:
                    return None
        for state in part:
            most[state] = entries
    return max(most.values(), default=0)


def passed_over(field, thread, steps):
    """Return how often a thread may be passed over at most behind so many steps, None if there is no greatest number.

    The step by which it begins is number 1.
    """
    check_thread(field, thread)
    if not is_number(steps, MOST_STEPS + 1) or steps == 0:
        raise BadSteps(steps)
    return most_entries(field, waiting_behind(field, graph_of(field), thread, steps))

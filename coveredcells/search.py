"""Searches through all states of a field that runs lead to."""

from coveredcells.runs import check_thread


def graph_of(field):
    """Return a dict from the states that runs lead to, to the lists of their steps: pairs of a thread and a state."""
    graph = {}
    ahead = [field.start()]
    while ahead:
        state = ahead.pop()
        if state not in graph:
            graph[state] = [(thread, field.step(state, thread)) for thread in range(len(field))]
            ahead.extend([follower for _, follower in graph[state]])
    return graph


def within(graph, states):
    """Return what is left of a graph if only some of its states are."""
    kept = {state: True for state in states}
    return {state: [step for step in graph[state] if step[1] in kept] for state in states}


def last_steps(graph, start):
    """Return a dict from the states to which steps lead from one on to the last of these steps, the nearest first.

    A step is a pair of the state ahead of it and its thread; the state from which all begins has None.
    """
    lasts = {start: None}
    front = [start]
    while front:
        found = []
        for state in front:
            for thread, follower in graph[state]:
                if follower not in lasts:
                    lasts[follower] = (state, thread)
                    found.append(follower)
        front = found
    return lasts


def run_to(lasts, state):
    """Return the run to a state, by the last steps to the states that are met on it."""
    run = []
    while lasts[state] is not None:
        state, thread = lasts[state]
        run.append(thread)
    return run[::-1]


def finished(graph):
    """Return the list of the states, each behind those it leads to that do not lead back to it."""
    order = []
    met = set()
    for first in graph:
        ahead = [(first, 0)] if first not in met else []
        met.add(first)
        while ahead:
            state, tried = ahead.pop()
            if tried == len(graph[state]):
                order.append(state)
                continue
            ahead.append((state, tried + 1))
            follower = graph[state][tried][1]
            if follower not in met:
                met.add(follower)
                ahead.append((follower, 0))
    return order


def parts_of(graph):
    """Return the lists of states that lead to one another; each state is in one of them.

    Each list stands ahead of those that its states lead to.
    """
    sources = {state: [] for state in graph}
    for state, steps in graph.items():
        for _, follower in steps:
            sources[follower].append(state)
    parts = []
    met = set()
    for first in reversed(finished(graph)):
        part = []
        ahead = [first]
        while ahead:
            state = ahead.pop()
            if state not in met:
                met.add(state)
                part.append(state)
                ahead.extend(sources[state])
        parts.append(part)
    return [part for part in parts if part]


def ring_of(field, graph):
    """Return a state and the ring from it back to it, with a step of each thread that has one in a graph.

    All states of the graph lead to one another. Returns None if a thread that is not at rest has no step in it.
    """
    steps = {}
    for state in graph:
        for thread, follower in graph[state]:
            steps.setdefault(thread, (state, follower))
    # A thread that has no step stands at one row in all the states.
    resting = field.resting(list(graph)[0])
    if not steps or not all([thread in steps or thread in resting for thread in range(len(field))]):
        return None
    threads = sorted(steps)
    first = steps[threads[0]][0]
    ring = []
    place = first
    for thread in threads:
        state, follower = steps[thread]
        ring = ring + run_to(last_steps(graph, place), state) + [thread]
        place = follower
    return first, ring + run_to(last_steps(graph, place), first)


def round_and_round(field, graph, states):
    """Return a run and a ring that passes only some states, with a step of each thread that is not at rest there."""
    kept = within(graph, states)
    for part in parts_of(kept):
        found = ring_of(field, within(kept, part))
        if found is not None:
            return run_to(last_steps(graph, field.start()), found[0]), found[1]
    return None


def reached(field):
    """Return the ascending list of the states that runs lead to."""
    return sorted(graph_of(field))


def clash(field):
    """Return a run with as few steps as possible that leads to a clash, None if the field is safe."""
    lasts = last_steps(graph_of(field), field.start())
    for state in lasts:
        if len(field.inside(state)) > 1:
            return run_to(lasts, state)
    return None


def standstill(field):
    """Return a standstill as a run and a ring, None if the field goes on."""
    graph = graph_of(field)
    # A thread that is at rest has no step in such a ring: it would not come to rest again without being inside.
    return round_and_round(field, graph, [state for state in graph if not field.inside(state)])


def kept_out(field, thread):
    """Return a run and a ring by which a thread is kept out, None if there is none."""
    check_thread(field, thread)
    graph = graph_of(field)
    states = [state for state in graph if thread not in [*field.inside(state), *field.resting(state)]]
    return round_and_round(field, graph, states)

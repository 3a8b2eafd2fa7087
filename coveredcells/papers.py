"""Papers: tables by which anybody can check that a field is safe and goes on."""

from coveredcells.forms import is_number, is_whole
from coveredcells.search import graph_of, parts_of, within


def waiting_in(field, graph):
    """Return the ascending list of the threads that have no step in a graph, and are not at rest in its states.

    All states of the graph lead to one another, so that each of these threads stands at one row in all of them.
    """
    moving = {thread: True for steps in graph.values() for thread, _ in steps}
    resting = field.resting(list(graph)[0])
    return [thread for thread in range(len(field)) if thread not in moving and thread not in resting]


def paper(field):
    """Return a paper whose states are just those that runs lead to, None if there is none."""
    graph = graph_of(field)
    if any([len(field.inside(state)) > 1 for state in graph]):
        return None
    table = {state: (0, None) for state in sorted(graph)}
    outside = within(graph, [state for state in graph if not field.inside(state)])
    # States that lead to one another have one rank, and one thread whose step leads away from them all.
    for rank, part in enumerate(reversed(parts_of(outside))):
        inner = within(outside, part)
        threads = waiting_in(field, inner)
        if not threads and any([len(steps) > 0 for steps in inner.values()]):
            return None
        for state in part:
            table[state] = (rank, threads[0] if threads else None)
    return table


def is_state(field, place):
    """Tell whether a pair of tuples of integers is a state of a field."""
    numbers, worths = place
    if len(numbers) != len(field) or len(worths) != len(field.cells):
        return False
    at_rows = all([is_number(number, len(program)) for number, program in zip(numbers, field.programs)])
    return at_rows and all([is_whole(worth) for worth in worths])


def is_entry(field, pair):
    """Tell whether a pair is one of a rank, and of a thread of a field or None."""
    rank, thread = pair
    return is_whole(rank) and (thread is None or is_number(thread, len(field)))


def may_follow(pair, thread, behind):
    """Tell whether a pair may stand behind another one if a step of a thread leads there."""
    if behind[0] == pair[0]:
        return behind[1] == pair[1] and thread != pair[1]
    return behind[0] < pair[0]


def holds_at(field, table, state):
    """Tell whether what makes a table a paper holds at one of its states."""
    followers = [field.step(state, mover) for mover in range(len(field))]
    inside = field.inside(state)
    if len(inside) > 1 or not all([follower in table for follower in followers]):
        return False
    if inside:
        return True
    resting = field.resting(state)
    named = table[state][1]
    if len(resting) < len(field) and (named is None or named in resting):
        return False
    steps = [(mover, follower) for mover, follower in enumerate(followers) if not field.inside(follower)]
    return all([may_follow(table[state], mover, table[follower]) for mover, follower in steps])


def is_paper(field, table):
    """Tell whether a dict from states to pairs of a rank and a thread or None is a paper of a field."""
    if field.start() not in table:
        return False
    if not all([is_state(field, place) and is_entry(field, table[place]) for place in table]):
        return False
    return all([holds_at(field, table, state) for state in table])

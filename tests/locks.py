"""Known locks, drawn ones, and a walker and searches of the tests' own, which do not ask the package for a step."""

import random

from coveredcells.fields import Field
from coveredcells.programs import Program

LETTERS = "abcde"


def waiting(cell, worth, here):
    """Return a row that waits for a worth of a cell, with the next row behind it."""
    return ("read", cell, {worth: here + 1}, here)


def onebit_rows(me, threads):
    own = LETTERS[me]
    rows = [("rest", 1), ("write", own, 1, 2)]
    for lower in LETTERS[:me]:
        here = len(rows)
        rows.append(("read", lower, {0: here + 3}, here + 1))
        rows.append(("write", own, 0, here + 2))
        rows.append(("read", lower, {0: 1}, here + 2))
    for higher in LETTERS[me + 1:threads]:
        rows.append(waiting(higher, 0, len(rows)))
    return rows + [("inside", len(rows) + 1), ("write", own, 0, 0)]


def peterson_rows(me):
    own, other = LETTERS[me], LETTERS[1 - me]
    return [("rest", 1), ("write", own, 1, 2), ("write", "turn", 1 - me, 3), ("read", other, {0: 5}, 4),
            ("read", "turn", {me: 5}, 3), ("inside", 6), ("write", own, 0, 0)]


def dekker_rows(me):
    own, other = LETTERS[me], LETTERS[1 - me]
    return [("rest", 1), ("write", own, 1, 2), ("read", other, {0: 7}, 3), ("read", "turn", {me: 2}, 4),
            ("write", own, 0, 5), ("read", "turn", {me: 6}, 5), ("write", own, 1, 2), ("inside", 8),
            ("write", "turn", 1 - me, 9), ("write", own, 0, 0)]


def turning_rows(me, threads):
    return [("rest", 1), waiting("turn", me, 1), ("inside", 3), ("write", "turn", (me + 1) % threads, 0)]


LOOKING = [("rest", 1), waiting("door", 0, 1), ("write", "door", 1, 3), ("inside", 4), ("write", "door", 0, 0)]


def announcing_rows(me, threads):
    own = LETTERS[me]
    rows = [("rest", 1), ("write", own, 1, 2)]
    for other in LETTERS[:threads].replace(own, ""):
        rows.append(waiting(other, 0, len(rows)))
    return rows + [("inside", len(rows) + 1), ("write", own, 0, 0)]


def field_of(cells, rows_of_threads):
    return Field(list(cells), [Program(rows) for rows in rows_of_threads])


def onebit(threads):
    return field_of(LETTERS[:threads], [onebit_rows(me, threads) for me in range(threads)])


def peterson():
    return field_of(["a", "b", "turn"], [peterson_rows(0), peterson_rows(1)])


def dekker():
    return field_of(["a", "b", "turn"], [dekker_rows(0), dekker_rows(1)])


def turning(threads):
    return field_of(["turn"], [turning_rows(me, threads) for me in range(threads)])


def looking(threads):
    return field_of(["door"], [LOOKING] * threads)


def announcing(threads):
    return field_of(LETTERS[:threads], [announcing_rows(me, threads) for me in range(threads)])


def straight(threads):
    """Return a field without a cell, whose threads go straight inside."""
    return field_of([], [[("rest", 1), ("inside", 0)]] * threads)


def endless(threads):
    """Return a field without a write, whose threads wait for what never comes."""
    return field_of(["a"], [[("rest", 1), ("read", "a", {1: 2}, 1), ("inside", 0)]] * threads)


def known(most):
    """Return the known fields of up to so many threads, by what they are called."""
    fields = {"peterson": peterson(), "dekker": dekker()}
    for threads in range(1, most + 1):
        for make in (onebit, turning, looking, announcing, straight, endless):
            fields[f"{make.__name__} {threads}"] = make(threads)
    return fields


def merged(most):
    """Return the known fields with each two of their cells made one."""
    fields = {}
    for word, field in known(most).items():
        for kept in field.cells:
            for gone in field.cells:
                if kept != gone:
                    fields[f"{word}, {gone} made {kept}"] = field.merged(kept, gone)
    return fields


def drawn_row(draw, cells, goals):
    """Return a row that reads or writes a cell, and leads to some of the goals."""
    if draw.random() < 0.5:
        return ("write", draw.choice(cells), draw.randrange(4), draw.choice(goals))
    cases = {draw.randrange(4): draw.choice(goals) for _ in range(draw.randrange(3))}
    return ("read", draw.choice(cells), cases, draw.choice(goals))


def drawn_rows(draw, cells, most):
    """Return the rows of a drawn program: rows ahead of the inside rows, such behind them, and one or two rest rows."""
    if not cells:
        return [("rest", 1), ("inside", 0)]
    ahead, behind = draw.randrange(1, most // 2), draw.randrange(1, most // 2)
    rests = [0] if draw.random() < 0.7 else [0, ahead + behind + 3]
    entries = list(range(1, ahead + 1))
    insides = [ahead + 1, ahead + 2]
    exits = list(range(ahead + 3, ahead + behind + 3))
    rows = [("rest", draw.choice(entries))]
    for at in entries:
        # Forward for the most part, so that not every drawn thread goes round for ever.
        goals = [number for number in entries if number > at or draw.random() < 0.3]
        rows.append(drawn_row(draw, cells, goals + insides))
    rows += [("inside", draw.choice(exits + rests)) for _ in insides]
    for at in exits:
        rows.append(drawn_row(draw, cells, [number for number in exits if number > at] + rests))
    return rows + [("rest", draw.choice(entries)) for _ in rests[1:]]


def drawn(seed, threads, many_cells, most=12):
    """Return a drawn field; the seed tells which."""
    draw = random.Random(seed)
    cells = list(LETTERS[:many_cells])
    return field_of(cells, [drawn_rows(draw, cells, most) for _ in range(threads)])


def changed(field, seed):
    """Return a known field, which has cells, with a row that reads or writes changed to one that Program takes."""
    draw = random.Random(seed)
    while True:
        tables = [program.rows() for program in field.programs]
        thread = draw.randrange(len(tables))
        places = [at for at, row in enumerate(tables[thread]) if row[0] in ("read", "write")]
        at = draw.choice(places)
        tables[thread][at] = drawn_row(draw, list(field.cells), list(range(len(tables[thread]))))
        try:
            return field_of(field.cells, tables)
        except ValueError:
            pass


class Walker:
    """Walks a field by its rows."""

    def __init__(self, field):
        self.cells = list(field.cells)
        self.tables = [program.rows() for program in field.programs]
        self.threads = range(len(self.tables))
        self.start = (tuple(0 for _ in self.tables), tuple(0 for _ in self.cells))

    def row(self, state, thread):
        return self.tables[thread][state[0][thread]]

    def sort(self, state, word):
        """Return the set of the threads that are at a row of a sort."""
        return {thread for thread in self.threads if self.row(state, thread)[0] == word}

    def step(self, state, thread):
        rows, worths = state
        row = self.row(state, thread)
        follower = row[-1]
        if row[0] == "write":
            at = self.cells.index(row[1])
            worths = worths[:at] + (row[2],) + worths[at + 1:]
        elif row[0] == "read":
            worth = worths[self.cells.index(row[1])]
            follower = row[2][worth] if worth in row[2] else row[3]
        return rows[:thread] + (follower,) + rows[thread + 1:], worths

    def states(self, run, state=None):
        """Return all states that a run passes."""
        states = [self.start if state is None else state]
        for thread in run:
            states.append(self.step(states[-1], thread))
        return states

    def clash(self, run):
        return len(self.sort(self.states(run)[-1], "inside")) >= 2

    def standstill(self, run, ring):
        first = self.states(run)[-1]
        states = self.states(ring, first)
        moving = set(self.threads) - self.sort(first, "rest")
        return bool(ring) and states[-1] == first and set(ring) == moving and not any(
            self.sort(state, "inside") for state in states)

    def cover(self, count, run, twin):
        here, there = self.states(run)[-1], self.states(twin)[-1]
        rows = [self.row(here, thread) for thread in range(count)]
        return (all(thread < count for thread in list(run) + list(twin))
                and all(row[0] == "write" for row in rows) and len({row[1] for row in rows}) == count
                and len(self.sort(there, "rest")) == len(self.tables) and here[1] == there[1])

    def kept_out(self, thread, run, ring):
        first = self.states(run)[-1]
        states = self.states(ring, first)
        if not ring or states[-1] != first:
            return False
        if any(self.row(state, thread)[0] in ("inside", "rest") for state in states):
            return False
        return all(other in ring or all(self.row(state, other)[0] == "rest" for state in states)
                   for other in self.threads)

    def distances(self):
        """Return a dict from the states that runs lead to, to the fewest steps to them."""
        found = {self.start: 0}
        queue = [self.start]
        for state in queue:
            for thread in self.threads:
                follower = self.step(state, thread)
                if follower not in found:
                    found[follower] = found[state] + 1
                    queue.append(follower)
        return found

    def spread(self, first, states, steps):
        """Return the states among some that are come to from one, by steps as a dict from states to states tells."""
        met = {first}
        queue = [first]
        for state in queue:
            for follower in steps[state]:
                if follower in states and follower not in met:
                    met.add(follower)
                    queue.append(follower)
        return met

    def goes_round(self, states):
        """Tell whether a ring among states has a step of each thread that is not at rest there."""
        forth = {state: [self.step(state, thread) for thread in self.threads] for state in states}
        back = {state: [] for state in states}
        for state in states:
            for follower in forth[state]:
                back.setdefault(follower, []).append(state)
        left = set(states)
        while left:
            first = min(left)
            part = self.spread(first, left, forth) & self.spread(first, left, back)
            moved = {thread for state in part for thread in self.threads if forth[state][thread] in part}
            if moved and moved | self.sort(first, "rest") == set(self.threads):
                return True
            left -= part
        return False

    def goes_round_plainly(self, states, first_counts):
        """Tell the same by trying all rings from each state on, as the document words it.

        A thread is to have a step if it is not at rest in the first state (and no step if it is), or, unless the first
        state is what counts, if it is not at rest in some state that the ring passes.
        """
        states = set(states)
        everyone = frozenset(self.threads)
        for first in states:
            begin = (first, frozenset(), everyone - self.sort(first, "rest"))
            met = {begin}
            queue = [begin]
            for state, moved, awake in queue:
                for thread in self.threads:
                    follower = self.step(state, thread)
                    if follower not in states:
                        continue
                    asked = awake if first_counts else awake | (everyone - self.sort(follower, "rest"))
                    place = (follower, moved | {thread}, asked)
                    if follower == first and (place[1] == asked if first_counts else place[1] >= asked):
                        return True
                    if place not in met:
                        met.add(place)
                        queue.append(place)
        return False


def some_fields(threads, most):
    """Return known, changed, merged and drawn fields of up to so many threads, with at most so many states.

    Each stands in a tuple of what it is called, the field, its walker, and the fewest steps to each of its states.
    """
    fields = {**known(threads), **merged(3)}
    for word, field in known(3).items():
        if len(field) > 1 and field.cells:
            for seed in range(4):
                fields[f"{word} changed, {seed}"] = changed(field, seed)
    draw = random.Random(3)
    for seed in range(60):
        fields[f"drawn, {seed}"] = drawn(seed, draw.randrange(1, threads + 1), draw.randrange(4), 6)
    walkers = {word: Walker(field) for word, field in fields.items()}
    states = {word: walker.distances() for word, walker in walkers.items()}
    return [(word, fields[word], walkers[word], states[word]) for word in fields if len(states[word]) <= most]

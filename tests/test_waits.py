"""Promises 16 and 17: threads that go alone, and threads that are passed over."""

import unittest

from coveredcells.errors import BadSteps, BadThread
from coveredcells.waits import alone, passed_over
from tests.locks import (
    Walker, announcing, changed, dekker, drawn, endless, field_of, looking, onebit, peterson, some_fields, straight,
    turning)

SOME = some_fields(3, 400)
NOT_THREADS = (True, False, None, -1, 2, 10 ** 5000, -10 ** 5000, "0", "", b"0", [0], (0,), {}, object(), 0.0)
NOT_STEPS = (True, False, None, 0, -1, 21, 10 ** 5000, -10 ** 5000, "1", "", b"1", [1], (1,), {}, object(), 1.0)


def slow_alone(walker, states, thread):
    """Return what `alone` tells, by letting the thread go from each state as often as there are states."""
    found = []
    for state in states:
        if len(walker.sort(state, "rest")) < len(walker.tables):
            continue
        steps = 0
        while walker.row(state, thread)[0] != "inside":
            state = walker.step(state, thread)
            steps += 1
            if steps > len(states):
                return None
        found.append(steps)
    return max(found)


def begun(walker, states, thread, steps):
    """Return the states behind the thread's own step of this number and ahead of its coming inside."""
    queue = [(walker.step(state, thread), 1) for state in states if walker.row(state, thread)[0] == "rest"]
    queue = [place for place in dict.fromkeys(queue) if walker.row(place[0], thread)[0] != "inside"]
    met = set(queue)
    for state, done in queue:
        for mover in walker.threads:
            place = (walker.step(state, mover), done + (mover == thread))
            if walker.row(place[0], thread)[0] != "inside" and place[1] <= steps and place not in met:
                met.add(place)
                queue.append(place)
    return {state for state, done in met if done == steps}


def slow_passed_over(walker, states, thread, steps):
    """Return what `passed_over` tells, by all the states in which the thread has been passed over 0, 1, 2 .. times."""
    here = begun(walker, states, thread, steps)
    times = -1
    before = set()
    while here:
        times += 1
        queue = list(here)
        behind = set()
        for state in queue:
            for mover in walker.threads:
                follower = walker.step(state, mover)
                if walker.row(follower, thread)[0] == "inside":
                    continue
                if walker.row(follower, mover)[0] == "inside":
                    behind.add(follower)
                elif follower not in here:
                    here.add(follower)
                    queue.append(follower)
        # The same states come again for ever, or have no further one behind them.
        if frozenset(here) in before:
            return None
        before.add(frozenset(here))
        here = behind
    return max(times, 0)


def refused(case, error, call, *arguments):
    """Return the value that the error of a call has."""
    with case.assertRaises(error) as caught:
        call(*arguments)
    return caught.exception


class AloneTest(unittest.TestCase):
    def test_known_fields(self):
        for threads in range(1, 5):
            for thread in range(threads):
                self.assertEqual(alone(straight(threads), thread), 1)
                self.assertEqual(alone(looking(threads), thread), 3)
                self.assertEqual(alone(announcing(threads), thread), 1 + threads)
                # Each lower thread's cell is read once, and each higher one's.
                self.assertEqual(alone(onebit(threads), thread), 1 + threads)
                self.assertEqual(alone(turning(threads), thread), None if threads > 1 else 2)
                self.assertIsNone(alone(endless(threads), thread))
        self.assertEqual([alone(peterson(), thread) for thread in (0, 1)], [4, 4])
        self.assertEqual([alone(dekker(), thread) for thread in (0, 1)], [3, 3])

    def test_the_greatest_of_all_states_at_rest(self):
        # Thread 0 has a longer way if thread 1 was inside last, and thread 1 has none at first.
        rows = [[("rest", 1), ("read", "a", {0: 5}, 2), ("write", "a", 0, 3), ("read", "b", {}, 4),
                 ("read", "b", {}, 5), ("inside", 0)],
                [("rest", 1), ("inside", 2), ("write", "a", 1, 0)]]
        field = field_of("ab", rows)
        self.assertEqual([alone(field, 0), alone(field, 1)], [5, 1])

    def test_never_from_one_state_alone(self):
        # Only behind thread 1 thread 0 waits for ever, though it always comes inside from the first state.
        waits = [("rest", 1), ("read", "a", {0: 2}, 1), ("inside", 0)]
        field = field_of("a", [waits, [("rest", 1), ("inside", 2), ("write", "a", 1, 0)]])
        self.assertEqual([alone(field, 0), alone(field, 1)], [None, 1])
        field = field_of("a", [waits, [("rest", 1), ("inside", 2), ("write", "a", 1, 3), ("write", "a", 0, 0)]])
        self.assertEqual([alone(field, 0), alone(field, 1)], [2, 1])

    def test_only_states_that_runs_lead_to(self):
        # With a worth of 2 in its cell the thread would wait for ever, but nobody writes it.
        rows = [("rest", 1), ("read", "a", {2: 1}, 2), ("write", "a", 1, 3), ("inside", 0), ("write", "a", 2, 0)]
        self.assertEqual(alone(field_of("a", [rows]), 0), 3)

    def test_other_rest_rows(self):
        rows = [("rest", 1), ("inside", 2), ("rest", 3), ("write", "a", 1, 4), ("write", "a", 0, 5), ("inside", 0)]
        for threads in range(1, 4):
            self.assertEqual(alone(field_of("a", [rows] * threads), threads - 1), 3)

    def test_a_ring_that_two_ways_lead_to(self):
        # Thread 0 goes round the same rows from two states at rest; thread 1 leads from the one to the other.
        waits = [("rest", 1), ("read", "a", {1: 2}, 3), ("write", "b", 1, 3), ("read", "b", {7: 4}, 1), ("inside", 0)]
        field = field_of("ab", [waits, [("rest", 1), ("inside", 2), ("write", "a", 1, 0)]])
        self.assertIsNone(alone(field, 0))

    def test_against_a_slow_way(self):
        told = {False: 0, True: 0}
        for word, field, walker, states in SOME:
            for thread in walker.threads:
                steps = alone(field, thread)
                self.assertEqual(steps, slow_alone(walker, states, thread), (word, thread))
                self.assertIn(type(steps), (int, type(None)))
                told[steps is None] += 1
        self.assertGreater(min(told.values()), 50, told)

    def test_bad_threads(self):
        for field in (peterson(), looking(2)):
            for thread in NOT_THREADS:
                self.assertIs(refused(self, BadThread, alone, field, thread).thread, thread)
        for threads in range(1, 5):
            alone(straight(threads), threads - 1)
            self.assertEqual(refused(self, BadThread, alone, straight(threads), threads).thread, threads)


class PassedOverTest(unittest.TestCase):
    def test_one_thread(self):
        for field in (straight(1), looking(1), turning(1), onebit(1), endless(1), announcing(1)):
            for steps in range(1, 21):
                self.assertEqual(passed_over(field, 0, steps), 0)

    def test_who_always_comes_inside_by_fewer_steps(self):
        for threads in range(1, 5):
            for steps in (1, 2, 20):
                self.assertEqual(passed_over(straight(threads), 0, steps), 0)
        rows = [("rest", 1), ("write", "a", 1, 2), ("write", "a", 0, 3), ("inside", 4), ("write", "a", 1, 0)]
        field = field_of("a", [rows, [("rest", 1), ("inside", 0)]])
        self.assertEqual([passed_over(field, 0, steps) for steps in (1, 2, 3, 4, 20)], [None, None, 0, 0, 0])

    def test_passed_over_without_end(self):
        # The first thread of the one-bit field needs nobody, but may stand still for ever ahead of its own bit.
        self.assertIsNone(passed_over(onebit(2), 0, 1))
        for steps in (1, 2, 3, 20):
            self.assertIsNone(passed_over(onebit(2), 1, steps))
            self.assertIsNone(passed_over(looking(2), 1, steps))

    def test_known_fields(self):
        # Counted by hand: who has set its bit is passed over once at most; of the one-bit field not at all.
        self.assertEqual([passed_over(peterson(), 0, steps) for steps in (1, 2, 3, 4, 20)], [None, 1, 1, 1, 1])
        self.assertEqual([passed_over(peterson(), 1, steps) for steps in (1, 2, 3, 4, 20)], [None, 1, 1, 1, 1])
        self.assertEqual([passed_over(onebit(2), 0, steps) for steps in (2, 3, 20)], [0, 0, 0])
        for thread in (0, 1):
            self.assertEqual([passed_over(turning(2), thread, steps) for steps in (1, 2, 3, 20)], [1, 1, 1, 1])
        # It is thread 1's turn first, then that of all others ahead of it, until it is its own again.
        self.assertEqual([passed_over(turning(4), thread, 1) for thread in range(4)], [3, 3, 3, 3])
        self.assertEqual([passed_over(endless(3), 1, steps) for steps in (1, 5)], [0, 0])

    def test_also_if_the_thread_has_no_further_step(self):
        # Behind its second step it would come inside by the next one, which it may never do.
        rows = [("rest", 1), ("write", "a", 1, 2), ("inside", 0)]
        field = field_of("a", [rows, [("rest", 1), ("inside", 0)]])
        self.assertEqual([passed_over(field, 0, steps) for steps in (1, 2, 3)], [None, 0, 0])
        rows = [("rest", 1), ("write", "a", 1, 2), ("write", "a", 2, 3), ("inside", 0)]
        field = field_of("a", [rows, [("rest", 1), ("inside", 0)]])
        self.assertEqual([passed_over(field, 0, steps) for steps in (1, 2, 3, 4)], [None, None, 0, 0])

    def test_counted_behind_the_step(self):
        # Behind its second step, thread 1 may be about to come inside; behind its third one, it has come in already.
        rows = [("rest", 1), ("write", "a", 1, 2), ("read", "b", {0: 3}, 2), ("inside", 4), ("write", "a", 0, 0)]
        other = [("rest", 1), ("read", "a", {0: 2}, 1), ("write", "b", 1, 3), ("inside", 4), ("write", "b", 0, 0)]
        field = field_of("ab", [rows, other])
        self.assertEqual([passed_over(field, 0, steps) for steps in (1, 2, 3, 20)], [None, 1, 0, 0])

    def test_all_that_come_inside_count(self):
        # Also two at once, or one that is inside already when another one comes.
        once = [("rest", 1), ("read", "a", {0: 2}, 1), ("inside", 3), ("write", "a", 1, 0)]
        waits = [("rest", 1), ("read", "a", {1: 2}, 1), ("inside", 0)]
        for threads in range(1, 4):
            field = field_of("a", [waits] + [once] * threads)
            self.assertEqual(passed_over(field, 0, 1), threads)

    def test_who_is_inside_already_does_not_count(self):
        # Thread 1 goes on from row 1 to row 2 only if thread 0 has come inside, which it does once and no more.
        rows = [[("rest", 1), ("read", "a", {0: 2}, 1), ("write", "b", 1, 3), ("inside", 4), ("write", "a", 1, 0)],
                [("rest", 1), ("read", "b", {1: 2}, 3), ("read", "a", {1: 3}, 2), ("inside", 0)]]
        field = field_of("ab", rows)
        self.assertEqual([passed_over(field, 1, steps) for steps in (1, 2, 3, 20)], [1, 0, 0, 0])

    def test_others_go_between_the_steps(self):
        # Thread 0 waits for ever only if thread 1 sees the mark of its second step, and answers ahead of its third one.
        rows = [[("rest", 1), ("write", "a", 1, 2), ("read", "b", {1: 3}, 4), ("read", "a", {9: 4}, 3), ("inside", 5),
                 ("rest", 6), ("inside", 5)],
                [("rest", 1), ("read", "a", {1: 2}, 1), ("write", "b", 1, 3), ("inside", 0)]]
        field = field_of("ab", rows)
        self.assertEqual([passed_over(field, 0, steps) for steps in (1, 2, 3, 20)], [None] * 4)

    def test_against_a_slow_way(self):
        told = {"none": 0, "never": 0, "once": 0, "more": 0}
        for word, field, walker, states in SOME:
            for thread in walker.threads:
                for steps in (1, 2, 3, 4, 7, 20):
                    times = passed_over(field, thread, steps)
                    self.assertEqual(times, slow_passed_over(walker, states, thread, steps), (word, thread, steps))
                    self.assertIn(type(times), (int, type(None)))
                    told["none" if times is None else ("never", "once", "more")[min(times, 2)]] += 1
        self.assertGreater(min(told.values()), 30, told)

    def test_changed_locks(self):
        for make in (peterson, dekker, lambda: onebit(2), lambda: announcing(2)):
            for seed in range(40):
                field = changed(make(), seed)
                walker = Walker(field)
                states = walker.distances()
                for thread in (0, 1):
                    self.assertEqual(alone(field, thread), slow_alone(walker, states, thread))
                    for steps in (1, 2, 3, 5):
                        self.assertEqual(passed_over(field, thread, steps),
                                         slow_passed_over(walker, states, thread, steps), (seed, thread, steps))

    def test_bad_threads(self):
        for thread in NOT_THREADS:
            for steps in (1, 20, 0, None, True, "1"):
                self.assertIs(refused(self, BadThread, passed_over, peterson(), thread, steps).thread, thread)
        for threads in range(1, 5):
            passed_over(straight(threads), threads - 1, 1)
            self.assertEqual(refused(self, BadThread, passed_over, straight(threads), threads, 1).thread, threads)

    def test_bad_steps(self):
        for steps in NOT_STEPS:
            for field in (peterson(), straight(1)):
                self.assertIs(refused(self, BadSteps, passed_over, field, 0, steps).steps, steps)
        for steps in (1, 20):
            self.assertEqual(passed_over(straight(1), 0, steps), 0)


class NothingChangesTest(unittest.TestCase):
    def test_values_are_equal(self):
        for make in (peterson, lambda: onebit(3), lambda: turning(3)):
            field = make()
            text = field.text()
            for thread in (0, 1):
                self.assertEqual(alone(field, thread), alone(make(), thread))
                self.assertEqual(passed_over(field, thread, 2), passed_over(make(), thread, 2))
                self.assertEqual(passed_over(field, thread, 2), passed_over(field, thread, 2))
            self.assertEqual((field, field.text()), (make(), text))

    def test_names_of_parameters(self):
        self.assertEqual(alone(thread=1, field=peterson()), 4)
        self.assertEqual(passed_over(steps=3, thread=1, field=peterson()), 1)

    def test_many_states(self):
        # About as many states as the document lets a search have.
        for seed in (209, 377):
            field = drawn(seed, 4, 4, 14)
            walker = Walker(field)
            states = walker.distances()
            for thread in (0, 3):
                self.assertEqual(alone(field, thread), slow_alone(walker, states, thread))
                self.assertEqual(passed_over(field, thread, 20), slow_passed_over(walker, states, thread, 20))

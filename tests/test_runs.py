"""Promises 5, 6, 7 and 9: runs and what they lead to."""

import copy
import itertools
import random
import unittest

from coveredcells.errors import BadCount, BadRun, CellError
from coveredcells.runs import after, is_clash, is_cover, is_standstill
from tests.locks import (
    Walker, announcing, changed, dekker, drawn, endless, field_of, known, looking, onebit, peterson, straight,
    turning)

NOT_LISTS = (None, True, False, 0, -1, "", "0", "01", b"", {}, {0: 1}, object(), 10 ** 5000, {0}, iter([0]), range(2))
NOT_THREADS = (
    True, False, None, -1, 2, 10 ** 5000, -10 ** 5000, "0", "", b"0", [0], (0,), [], {}, {0}, object(), 1.0, 0.0)


class Strange:
    """Says of itself that it equals everything."""

    def __eq__(self, other):
        return True

    def __hash__(self):
        return 0


class RunsTest(unittest.TestCase):
    def bad_run(self, index, call, *arguments, **named):
        with self.assertRaises(BadRun) as caught:
            call(*arguments, **named)
        self.assertEqual(caught.exception.index, index)
        self.assertIs(type(caught.exception.index), int)

    def bad_count(self, count, *arguments):
        with self.assertRaises(BadCount) as caught:
            is_cover(*arguments)
        self.assertIs(caught.exception.count, count)


class AfterTest(RunsTest):
    def test_of_the_document(self):
        self.assertEqual(after(looking(2), [0, 0, 1, 1, 0]), ((3, 2), (1,)))

    def test_no_step(self):
        field = peterson()
        for run in ([], ()):
            self.assertEqual(after(field, run), ((0, 0), (0, 0, 0)))
            self.assertEqual(after(field, run, ((3, 4), (1, 0, 7))), ((3, 4), (1, 0, 7)))

    def test_steps_of_each_sort(self):
        field = field_of("ba", [[("rest", 2), ("inside", 3), ("read", "b", {5: 2, 0: 4}, 1), ("write", "a", 0, 0),
                                 ("write", "b", 6, 2)]])
        self.assertEqual([after(field, [0] * steps) for steps in range(7)], [
            ((0,), (0, 0)), ((2,), (0, 0)), ((4,), (0, 0)), ((2,), (0, 6)), ((1,), (0, 6)), ((3,), (0, 6)),
            ((0,), (0, 6))])
        self.assertEqual(after(field, [0], ((2,), (3, 5))), ((2,), (3, 5)))
        self.assertEqual(after(field, (0, 0), ((1,), (3, 5))), ((0,), (0, 5)))

    def test_lists_for_tuples(self):
        field = looking(2)
        for state in (((1, 2), (0,)), [[1, 2], [0]], [(1, 2), [0]], ([1, 2], (0,))):
            kept = copy.deepcopy(state)
            for run, behind in (([], ((1, 2), (0,))), ([1], ((1, 3), (1,))), ((0, 1, 0), ((3, 3), (1,)))):
                found = after(field, run, state)
                self.assertEqual(found, behind)
                self.assertEqual([type(part) for part in (found, *found)], [tuple] * 3)
            self.assertEqual(state, kept)

    def test_names_of_parameters(self):
        field = turning(2)
        self.assertEqual(after(run=[1], state=((2, 0), (0,)), field=field), ((2, 1), (0,)))
        self.assertEqual(after(field=field, run=[1], state=None), ((0, 1), (0,)))
        self.assertIs(is_clash(run=[1], field=field), False)
        self.assertIs(is_standstill(ring=[1], run=[1], field=field), True)
        self.assertIs(is_cover(twin=[], run=[], count=0, field=field), True)

    def test_against_a_walker(self):
        draw = random.Random(1)
        for seed in range(150):
            field = drawn(seed, draw.randrange(1, 6), draw.randrange(6), 22)
            walker = Walker(field)
            run = [draw.randrange(len(field)) for _ in range(60)]
            states = walker.states(run)
            self.assertEqual(after(field, run), states[-1])
            at = draw.randrange(60)
            self.assertEqual(after(field, tuple(run[at:]), states[at]), states[-1])
            self.assertEqual(is_clash(field, run[:at]), walker.clash(run[:at]))

    def test_bad_runs(self):
        field = looking(2)
        for wrong in NOT_LISTS:
            self.bad_run(0, after, field, wrong)
            self.bad_run(0, is_clash, field, wrong)
        for wrong in (*NOT_THREADS, Strange()):
            self.bad_run(0, after, field, [wrong])
            self.bad_run(2, after, field, (0, 1, wrong, 0, wrong))
            self.bad_run(1, is_clash, field, [1, wrong])
            self.bad_run(1, after, field, [1, wrong], ((1, 1), (0,)))

    def test_threads_are_those_of_the_field(self):
        for threads in range(1, 6):
            field = straight(threads)
            after(field, list(range(threads)))
            self.bad_run(threads, after, field, list(range(threads + 1)))
            self.bad_run(1, is_clash, field, [0, threads])


class ClashTest(RunsTest):
    def test_of_the_document(self):
        self.assertIs(is_clash(looking(2), [0, 0, 1, 1, 0, 1]), True)

    def test_numbers_inside(self):
        field = straight(3)
        for run, told in (([], False), ([0], False), ([0, 1], True), ([2, 0], True), ([0, 1, 2], True),
                          ([0, 1, 1], False), ([0, 1, 2, 0], True), ([0, 0, 1, 1], False)):
            self.assertIs(is_clash(field, run), told)
            self.assertIs(is_clash(field, tuple(run)), told)

    def test_the_last_state_counts(self):
        self.assertIs(is_clash(looking(2), [0, 0, 1, 1, 0, 1, 1]), False)

    def test_one_thread(self):
        for steps in range(4):
            self.assertIs(is_clash(straight(1), [0] * steps), False)


class StandstillTest(RunsTest):
    def test_of_the_document(self):
        self.assertIs(is_standstill(turning(2), [1], [1]), True)

    def test_ring_of_no_step(self):
        self.assertIs(is_standstill(turning(2), [], []), False)
        self.assertIs(is_standstill(turning(2), [1], []), False)
        self.assertIs(is_standstill(turning(2), (), ()), False)

    def test_lists_or_tuples(self):
        self.assertIs(is_standstill(turning(2), (1, 1, 1), (1, 1)), True)
        self.assertIs(is_standstill(turning(2), [], (1,)), False)

    def test_a_ring_that_does_not_lead_back(self):
        self.assertIs(is_standstill(turning(2), [], [1]), False)
        self.assertIs(is_standstill(announcing(2), [0], [0]), False)
        # The rows are the same again behind it, the worths are not.
        field = field_of("a", [[("rest", 1), ("read", "a", {3: 4}, 2), ("write", "a", 3, 3), ("read", "a", {5: 4}, 1),
                                ("inside", 0)]])
        self.assertIs(is_standstill(field, [0], [0, 0, 0]), False)

    def test_a_thread_without_a_step_that_is_not_at_rest(self):
        field = announcing(2)
        run = [0, 0, 1, 1]
        self.assertIs(is_standstill(field, run, [0, 1]), True)
        self.assertIs(is_standstill(field, run, [1, 0]), True)
        self.assertIs(is_standstill(field, run, [0]), False)
        self.assertIs(is_standstill(field, run, [1, 1]), False)
        self.assertIs(is_standstill(endless(3), [0, 1], [0, 1]), True)
        self.assertIs(is_standstill(endless(3), [0, 1, 2], [0, 1]), False)

    def test_a_step_of_a_thread_that_is_at_rest(self):
        # Thread 0 goes in and out again, and is at rest behind the ring as ahead of it, but it is inside on the way.
        field = turning(3)
        self.assertIs(is_standstill(field, [2], [2]), True)
        self.assertIs(is_standstill(field, [], [0, 0, 0, 0, 1, 1, 1, 1, 2, 2, 2, 2]), False)
        # A program that is straight inside and out is at rest again by two steps.
        self.assertIs(is_standstill(straight(2), [], [0, 0]), False)
        self.assertIs(is_standstill(straight(2), [0, 0], [0, 0, 1, 1]), False)

    def test_a_ring_that_a_thread_passes_inside(self):
        waits = [("rest", 1), ("read", "a", {1: 2}, 1), ("inside", 0)]
        field = field_of("a", [waits, [("rest", 1), ("inside", 0)]])
        self.assertIs(is_standstill(field, [0], [0]), True)
        self.assertIs(is_standstill(field, [0], [0, 1, 1]), False)
        self.assertIs(is_standstill(field, [0, 1], [0, 1, 1]), False)
        # Inside in the very state to which the ring leads back, and in no other one.
        self.assertIs(is_standstill(field, [0, 1], [0]), False)
        self.assertIs(is_standstill(field, [0, 1], [1, 1, 0]), False)

    def test_all_rings_of_some_steps(self):
        draw = random.Random(4)
        told = {False: 0, True: 0}
        fields = [announcing(2), turning(2), peterson(), endless(2), onebit(2), dekker()]
        fields += [changed(peterson(), seed) for seed in range(10)]
        for field in fields:
            walker = Walker(field)
            for _ in range(6):
                run = [draw.randrange(2) for _ in range(draw.randrange(9))]
                for length in range(5):
                    for ring in itertools.product(range(2), repeat=length):
                        answer = is_standstill(field, run, ring)
                        self.assertIs(answer, walker.standstill(run, ring))
                        told[answer] += 1
        self.assertGreater(min(told.values()), 50, told)

    def test_bad_runs(self):
        field = turning(2)
        for wrong in NOT_LISTS:
            self.bad_run(0, is_standstill, field, wrong, [1])
            self.bad_run(0, is_standstill, field, [1], wrong)
            self.bad_run(0, is_standstill, field, wrong, [1, 2])
            self.bad_run(1, is_standstill, field, [1, 2], wrong)
        for wrong in (*NOT_THREADS, Strange()):
            self.bad_run(1, is_standstill, field, [1, wrong], [1])
            self.bad_run(2, is_standstill, field, [1], (1, 1, wrong))
            self.bad_run(2, is_standstill, field, [1, 1, wrong], [wrong])
            # Also where the steps ahead of it tell already that it is no standstill.
            self.bad_run(3, is_standstill, straight(2), [0], [1, 1, 0, wrong])


class CoverTest(RunsTest):
    def test_of_no_thread(self):
        for word, field in known(5).items():
            self.assertIs(is_cover(field, 0, [], ()), True, word)
            self.assertIs(is_cover(field, 0, [0], []), False, word)
            self.assertIs(is_cover(field, 0, [], [0]), False, word)
        # Both runs lead to the first state again, and yet they have steps of thread 0.
        self.assertIs(is_cover(straight(2), 0, [0, 0], []), False)
        self.assertIs(is_cover(straight(2), 0, [], [0, 0]), False)

    def test_of_all_threads(self):
        for threads in range(1, 6):
            field = announcing(threads)
            everyone = list(range(threads))
            self.assertIs(is_cover(field, threads, everyone, []), True)
            self.assertIs(is_cover(field, threads, everyone[::-1], ()), True)
            self.assertIs(is_cover(field, threads, everyone[1:], []), False)
            self.assertIs(is_cover(field, threads - 1, everyone, []), False)
            self.assertIs(is_cover(field, threads - 1, everyone[:-1], []), True)

    def test_one_cell_is_not_covered_twice(self):
        field = looking(2)
        self.assertIs(is_cover(field, 1, [0, 0], []), True)
        self.assertIs(is_cover(field, 2, [0, 0, 1, 1], []), False)
        self.assertIs(is_cover(announcing(2).merged("a", "b"), 2, [0, 1], []), False)

    def test_steps_of_further_threads(self):
        field = announcing(3)
        self.assertIs(is_cover(field, 2, [0, 1], []), True)
        self.assertIs(is_cover(field, 2, [0, 1, 2], []), False)
        self.assertIs(is_cover(field, 2, [0, 1], [2]), False)
        once = [2] * 6
        self.assertEqual(after(field, once), field.start())
        self.assertIs(is_cover(field, 2, once + [0, 1], []), False)
        self.assertIs(is_cover(field, 2, [0, 1], once), False)
        self.assertIs(is_cover(field, 3, once + [0, 1, 2], once), True)

    def test_the_twin_is_still(self):
        field = announcing(2)
        self.assertIs(is_cover(field, 1, [0], [0]), False)
        self.assertIs(is_cover(field, 2, [0, 1], [1]), False)
        # Thread 0 is about to write, with the very worths that there are, but it is not at rest.
        self.assertIs(is_cover(field, 2, [0, 1], [0, 1]), False)

    def test_the_twin_has_the_same_worths(self):
        field = turning(2)
        once = [0] * 4
        self.assertIs(is_cover(field, 1, [0, 0, 0], []), True)
        self.assertIs(is_cover(field, 1, [0, 0, 0], once), False)
        self.assertIs(is_cover(field, 2, once + [1, 1, 1], once), False)
        self.assertEqual(after(field, once)[1], after(field, once + [1, 1, 1])[1])

    def test_who_does_not_write_does_not_cover(self):
        self.assertIs(is_cover(announcing(2), 2, [0], []), False)
        self.assertIs(is_cover(announcing(2), 1, [], []), False)
        self.assertIs(is_cover(looking(2), 1, [0], []), False)

    def test_drawn_runs(self):
        draw = random.Random(9)
        told = {False: 0, True: 0}
        for seed in range(40):
            field = changed(announcing(3), seed) if seed < 10 else drawn(seed, draw.randrange(1, 4), 3, 6)
            walker = Walker(field)
            for _ in range(60):
                count = draw.randrange(len(field) + 1)
                some = min(count + draw.randrange(2), len(field)) or 1
                run = [draw.randrange(some) for _ in range(draw.randrange(5))]
                for twin in ([], [0] * draw.randrange(6), run):
                    answer = is_cover(field, count, run, twin)
                    self.assertIs(answer, walker.cover(count, run, twin))
                    told[answer] += 1
        self.assertGreater(min(told.values()), 50, told)

    def test_bad_counts(self):
        field = announcing(2)
        for count in (True, False, None, -1, 3, 10 ** 5000, "2", "", b"2", [2], (2,), {}, object(), 2.0, Strange()):
            self.bad_count(count, field, count, [0], [])
            self.bad_count(count, field, count, None, [])
            self.bad_count(count, field, count, [0], [5])
        for threads in range(1, 6):
            self.bad_count(threads + 1, onebit(threads), threads + 1, [], [])
            self.assertIs(is_cover(onebit(threads), threads, list(range(threads)), []), True)

    def test_bad_runs(self):
        field = announcing(2)
        for wrong in NOT_LISTS:
            self.bad_run(0, is_cover, field, 2, wrong, [])
            self.bad_run(0, is_cover, field, 2, [0, 1], wrong)
            self.bad_run(0, is_cover, field, 0, wrong, [3, 4])
            self.bad_run(1, is_cover, field, 0, [0, 2], wrong)
        for wrong in (*NOT_THREADS, Strange()):
            self.bad_run(2, is_cover, field, 2, [0, 1, wrong], [])
            self.bad_run(1, is_cover, field, 2, (0, 1), (0, wrong))
            self.bad_run(1, is_cover, field, 1, [0, wrong], [wrong])
            self.bad_run(1, is_cover, field, 0, [1], [1, wrong])


class NothingChangesTest(unittest.TestCase):
    def test_what_is_passed(self):
        for field in (looking(2), announcing(3)):
            text, runs = field.text(), [[0, 1, 0, 1], [1, 0, 1], [0, 0]]
            kept = copy.deepcopy(runs)
            after(field, runs[0])
            is_clash(field, runs[0])
            is_standstill(field, runs[0], runs[1])
            is_cover(field, 2, runs[0], runs[2])
            for wrong in ([0, 9], None):
                for call in (after, is_clash):
                    self.assertRaises(CellError, call, field, wrong)
                self.assertRaises(CellError, is_standstill, field, runs[0], wrong)
                self.assertRaises(CellError, is_cover, field, 1, runs[0], wrong)
            self.assertEqual((runs, field.text(), field.start()[1]), (kept, text, (0,) * len(field.cells)))

    def test_equal_fields_give_equal_states(self):
        one, other = peterson(), field_of(("turn", "b", "a"), list(program.rows() for program in peterson().programs))
        self.assertEqual(one, other)
        self.assertEqual(after(one, [0, 0, 1]), after(other, (0, 0, 1)))

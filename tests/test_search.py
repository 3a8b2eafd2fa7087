"""Promises 8, 13 and 14: searches through all states."""

import unittest

from coveredcells.errors import BadThread
from coveredcells.runs import is_clash, is_standstill
from coveredcells.search import clash, kept_out, reached, standstill
from tests.locks import (
    Walker, announcing, dekker, drawn, endless, field_of, looking, onebit, peterson, some_fields, straight, turning)


SOME = some_fields(4, 600)


class SearchTest(unittest.TestCase):
    def are_lists(self, found, word):
        self.assertIs(type(found), tuple, word)
        self.assertEqual([type(part) for part in found], [list, list], word)


class ReachedTest(SearchTest):
    def test_straight(self):
        self.assertEqual(reached(straight(1)), [((0,), ()), ((1,), ())])
        self.assertEqual(reached(straight(2)), [((0, 0), ()), ((0, 1), ()), ((1, 0), ()), ((1, 1), ())])

    def test_ascending_by_rows_and_then_by_worths(self):
        field = field_of("ab", [[("rest", 1), ("read", "a", {3: 3}, 2), ("write", "a", 3, 3), ("inside", 4),
                                 ("write", "b", 11, 5), ("write", "b", 9, 0)]])
        self.assertEqual(reached(field), [
            ((0,), (0, 0)), ((0,), (3, 9)), ((1,), (0, 0)), ((1,), (3, 9)), ((2,), (0, 0)), ((3,), (3, 0)),
            ((3,), (3, 9)), ((4,), (3, 0)), ((4,), (3, 9)), ((5,), (3, 11))])

    def test_against_a_search(self):
        for word, field, _, states in SOME:
            found = reached(field)
            self.assertIs(type(found), list)
            self.assertEqual(found, sorted(states), word)
            self.assertEqual({type(part) for state in found for part in (state, *state)}, {tuple})

    def test_many_states(self):
        self.assertEqual(len(reached(onebit(4))), len(Walker(onebit(4)).distances()))


class ClashTest(SearchTest):
    def test_of_the_document(self):
        self.assertEqual([len(clash(looking(2))), clash(peterson())], [6, None])

    def test_safe_fields(self):
        for field in (dekker(), onebit(1), onebit(4), turning(4), announcing(4), straight(1), looking(1), endless(3)):
            self.assertIsNone(clash(field))

    def test_few_steps(self):
        for many in range(2, 5):
            self.assertEqual(len(clash(straight(many))), 2)
            self.assertEqual(len(clash(looking(many))), 6)

    def test_against_a_search(self):
        told = {False: 0, True: 0}
        for word, field, walker, states in SOME:
            steps = [many for state, many in states.items() if len(walker.sort(state, "inside")) > 1]
            run = clash(field)
            self.assertEqual(None if run is None else len(run), min(steps, default=None), word)
            if run is not None:
                self.assertIs(type(run), list)
                self.assertTrue(walker.clash(run) and is_clash(field, run), word)
            told[run is None] += 1
        self.assertGreater(min(told.values()), 20, told)


class StandstillTest(SearchTest):
    def test_of_the_document(self):
        self.assertIsNone(standstill(peterson()))

    def test_fields_that_go_on(self):
        for field in (dekker(), straight(1), straight(4), turning(1), looking(4), onebit(1), onebit(4), announcing(1)):
            self.assertIsNone(standstill(field))

    def test_fields_that_do_not_go_on(self):
        for field in (turning(2), turning(4), announcing(2), announcing(4), endless(1), endless(4)):
            found = standstill(field)
            self.are_lists(found, field.text())
            self.assertTrue(Walker(field).standstill(*found))
            self.assertTrue(is_standstill(field, *found))

    def test_those_who_go_round_only_together(self):
        # Neither goes round alone: each waits for what the other one writes.
        rows = [[("rest", 1), ("read", "a", {0: 2}, 1), ("write", "a", 1, 1), ("inside", 0)],
                [("rest", 1), ("read", "a", {1: 2}, 1), ("write", "a", 0, 1), ("inside", 0)]]
        field = field_of("a", rows)
        self.assertTrue(Walker(field).standstill(*standstill(field)))

    def test_a_ring_needs_all_that_want_something(self):
        # Thread 0 waits for thread 1, which always comes inside and sets it free.
        waits = [("rest", 1), ("read", "a", {1: 2}, 1), ("inside", 0)]
        field = field_of("a", [waits, [("rest", 1), ("write", "a", 1, 2), ("inside", 0)]])
        run, ring = standstill(field)
        self.assertEqual((set(ring), Walker(field).standstill(run, ring)), ({0}, True))
        first = [("rest", 1), ("write", "a", 1, 2), ("read", "a", {1: 3}, 2), ("inside", 0)]
        self.assertIsNone(standstill(field_of("a", [first, first])))

    def test_against_a_search(self):
        told = {False: 0, True: 0}
        for word, field, walker, states in SOME:
            outside = [state for state in states if not walker.sort(state, "inside")]
            found = standstill(field)
            self.assertEqual(found is not None, walker.goes_round(outside), word)
            if len(outside) <= 60:
                self.assertEqual(found is not None, walker.goes_round_plainly(outside, True), word)
            if found is not None:
                self.are_lists(found, word)
                self.assertTrue(walker.standstill(*found) and is_standstill(field, *found), word)
            told[found is None] += 1
        self.assertGreater(min(told.values()), 20, told)


class KeptOutTest(SearchTest):
    def test_of_the_document(self):
        self.assertEqual([kept_out(peterson(), 1), kept_out(onebit(2), 1) is None], [None, False])

    def test_known_fields(self):
        for field, threads in ((peterson(), []), (dekker(), []), (straight(3), []), (onebit(1), []), (onebit(2), [1]),
                               (onebit(4), [1, 2, 3]), (turning(2), [0, 1]), (turning(1), []), (endless(2), [0, 1]),
                               (announcing(2), [0, 1]), (looking(1), []), (looking(2), [0, 1])):
            for thread in range(len(field)):
                found = kept_out(field, thread)
                self.assertEqual(found is not None, thread in threads, (field.text(), thread))
                if found is not None:
                    self.are_lists(found, thread)
                    self.assertTrue(Walker(field).kept_out(thread, *found), (field.text(), thread))

    def test_the_others_may_come_inside(self):
        run, ring = kept_out(onebit(2), 1)
        walker = Walker(onebit(2))
        self.assertTrue(walker.kept_out(1, run, ring))
        self.assertIn({0}, [walker.sort(state, "inside") for state in walker.states(ring, walker.states(run)[-1])])

    def test_who_rests_all_the_time_needs_no_step(self):
        for field in (endless(3), turning(3)):
            walker = Walker(field)
            for thread in range(3):
                found = kept_out(field, thread)
                self.assertTrue(found is None or walker.kept_out(thread, *found))
        # Thread 1 is straight in and out of the room: it may be at rest all the time, or go round with thread 0.
        field = field_of("a", [[("rest", 1), ("read", "a", {1: 2}, 1), ("inside", 0)], [("rest", 1), ("inside", 0)]])
        self.assertTrue(Walker(field).kept_out(0, *kept_out(field, 0)))
        self.assertIsNone(kept_out(field, 1))

    def test_who_wants_something_is_not_left_out(self):
        # Thread 0 goes round only while thread 1 stands still between its two writes.
        waits = [("rest", 1), ("read", "a", {0: 2}, 1), ("inside", 0)]
        writes = [("rest", 1), ("inside", 2), ("write", "a", 1, 3), ("write", "a", 0, 4), ("read", "a", {1: 4}, 0)]
        ends = [("rest", 1), ("inside", 2), ("write", "a", 1, 3), ("write", "a", 0, 4), ("read", "b", {1: 0}, 4)]
        field = field_of("a", [waits, writes])
        self.assertEqual(kept_out(field, 0) is not None, self.plainly(field, 0))
        field = field_of("ab", [waits, ends])
        self.assertIsNone(kept_out(field, 0))
        self.assertFalse(self.plainly(field, 0))

    def plainly(self, field, thread):
        walker = Walker(field)
        allowed = [state for state in walker.distances() if walker.row(state, thread)[0] not in ("inside", "rest")]
        return walker.goes_round_plainly(allowed, False)

    def test_against_a_search(self):
        told = {False: 0, True: 0}
        for word, field, walker, states in SOME:
            for thread in range(len(field)):
                allowed = [state for state in states if walker.row(state, thread)[0] not in ("inside", "rest")]
                found = kept_out(field, thread)
                self.assertEqual(found is not None, walker.goes_round(allowed), (word, thread))
                if len(allowed) <= 60:
                    self.assertEqual(found is not None, walker.goes_round_plainly(allowed, False), (word, thread))
                if found is not None:
                    self.are_lists(found, word)
                    self.assertTrue(walker.kept_out(thread, *found), (word, thread))
                told[found is None] += 1
        self.assertGreater(min(told.values()), 20, told)

    def test_bad_threads(self):
        for field in (peterson(), looking(2)):
            for thread in (True, False, None, -1, 2, 10 ** 5000, -10 ** 5000, "0", "", b"0", [0], {}, object(), 0.0):
                with self.assertRaises(BadThread) as caught:
                    kept_out(field, thread)
                self.assertIs(caught.exception.thread, thread)
        for threads in range(1, 5):
            kept_out(straight(threads), threads - 1)
            with self.assertRaises(BadThread) as caught:
                kept_out(straight(threads), threads)
            self.assertEqual(caught.exception.thread, threads)


class NothingChangesTest(unittest.TestCase):
    def test_lists_are_new_and_values_equal(self):
        calls = (reached, clash, standstill, lambda field: kept_out(field, 0))
        for make in (lambda: looking(2), lambda: announcing(3), lambda: turning(2)):
            field = make()
            text = field.text()
            for call in calls:
                found = call(field)
                self.assertEqual(found, call(make()))
                for part in [found] if isinstance(found, list) else found or []:
                    part.clear()
                self.assertEqual(call(field), call(make()))
            self.assertEqual((field, field.text()), (make(), text))

    def test_names_of_parameters(self):
        field = turning(2)
        self.assertEqual(reached(field=field), reached(field))
        self.assertEqual(clash(field=field), clash(field))
        self.assertEqual(standstill(field=field), standstill(field))
        self.assertEqual(kept_out(thread=1, field=field), kept_out(field, 1))

    def test_many_states_of_four_threads(self):
        # About as many states as the document lets a search have.
        for seed, many in ((209, 15966), (377, 20466)):
            field = drawn(seed, 4, 4, 14)
            walker = Walker(field)
            states = walker.distances()
            self.assertEqual(len(states), many)
            self.assertEqual(reached(field), sorted(states))
            steps = [states[state] for state in states if len(walker.sort(state, "inside")) > 1]
            self.assertEqual(len(clash(field)), min(steps))
            found = standstill(field)
            self.assertEqual(found is not None, seed == 209)
            self.assertTrue(found is None or walker.standstill(*found))
            found = kept_out(field, 3)
            self.assertTrue(found is None or walker.kept_out(3, *found))

"""Promise 18: what can be behind the worths that are seen."""

import itertools
import random
import unittest

from coveredcells.errors import BadSeen, NoDeed
from coveredcells.watching import Watch, can_be
from tests.locks import (
    Walker, announcing, changed, dekker, drawn, field_of, known, looking, merged, onebit, peterson, straight, turning)

HUGE = 10 ** 5000
NOT_LISTS = (None, True, False, 0, -1, "", "00", b"", {}, {0: (0, 0)}, object(), HUGE, {(0, 0)}, iter([(0, 0)]))
# What cannot be seen of a field with two cells.
NOT_WORTHS = (
    None, True, 0, "", "00", b"00", {}, {0: 0, 1: 1}, object(), (), [], (0,), [0], (0, 0, 0), [0, 0, 0], (0, -1), [-1, 0],
    (0, True), [False, 0], (0, None), ("0", 0), (0, 0.0), (0, (0,)), ((0, 0),), [[], []], (0, -HUGE), {0, 1}, range(2),
    iter((0, 0)))


def shown(walker, run):
    """Return what is seen of a run, as a list of tuples."""
    return [state[1] for state in walker.states(run)]


def slow_can_be(walker, seen):
    """Return what `can_be` tells, by walking all runs of as many steps."""
    runs = itertools.product(walker.threads, repeat=len(seen) - 1)
    return sorted({walker.states(run)[-1] for run in runs if shown(walker, run) == seen})


def some():
    """Return fields of up to three threads."""
    fields = {**known(3), **merged(3)}
    for make in (peterson, dekker, lambda: onebit(2), lambda: onebit(3), lambda: announcing(3), lambda: looking(3)):
        for seed in range(6):
            fields[f"changed {len(fields)}"] = changed(make(), seed)
    draw = random.Random(18)
    for seed in range(40):
        fields[f"drawn {seed}"] = drawn(seed, draw.randrange(1, 4), draw.randrange(4), 8)
    return fields


SOME = some()


class SeenTest(unittest.TestCase):
    def are_states(self, found):
        self.assertIs(type(found), list)
        self.assertEqual(found, sorted(set(found)))
        for state in found:
            self.assertEqual([type(part) for part in (state, *state)], [tuple] * 3)

    def bad(self, index, call, *arguments):
        with self.assertRaises(BadSeen) as caught:
            call(*arguments)
        self.assertEqual(caught.exception.index, index)
        self.assertIs(type(caught.exception.index), int)


class CanBeTest(SeenTest):
    def test_nothing_but_the_first_state(self):
        for word, field in known(5).items():
            first = field.start()
            self.assertEqual(can_be(field, [first[1]]), [first], word)
            self.assertEqual(can_be(field, (list(first[1]),)), [first], word)

    def test_first_worths_that_are_not_those_of_the_first_state(self):
        self.assertEqual(can_be(looking(2), [(1,)]), [])
        self.assertEqual(can_be(looking(2), [(1,), (1,)]), [])
        self.assertEqual(can_be(looking(2), [(1,), (0,)]), [])
        self.assertEqual(can_be(onebit(2), [(0, 1)]), [])
        self.assertEqual(can_be(onebit(2), [(HUGE, 0)]), [])

    def test_some_steps(self):
        self.assertEqual(can_be(looking(2), [(0,), (0,)]), [((0, 1), (0,)), ((1, 0), (0,))])
        self.assertEqual(can_be(looking(2), [(0,), (0,), (0,)]),
                         [((0, 2), (0,)), ((1, 1), (0,)), ((2, 0), (0,))])
        self.assertEqual(can_be(looking(2), [(0,), (0,), (0,), (1,)]), [((0, 3), (1,)), ((3, 0), (1,))])
        self.assertEqual(can_be(turning(2), [(0,)] * 4), [
            ((0, 1), (0,)), ((1, 1), (0,)), ((2, 1), (0,)), ((3, 0), (0,))])

    def test_what_cannot_be_seen(self):
        self.assertEqual(can_be(looking(2), [(0,), (1,)]), [])
        self.assertEqual(can_be(looking(2), [(0,), (0,), (0,), (2,)]), [])
        self.assertEqual(can_be(looking(2), [(0,), (HUGE,)]), [])
        # Nothing can be behind it either, though the worths are right again.
        self.assertEqual(can_be(looking(2), [(0,), (1,), (0,)]), [])

    def test_a_write_of_the_worth_that_is_there(self):
        field = field_of("a", [[("rest", 1), ("write", "a", 0, 2), ("inside", 0)]])
        self.assertEqual(can_be(field, [[0]] * 3), [((2,), (0,))])

    def test_no_cell(self):
        for threads in range(1, 6):
            field = straight(threads)
            for steps in range(5):
                found = can_be(field, [()] * (steps + 1))
                self.are_states(found)
                self.assertEqual(found, [
                    (rows, ()) for rows in itertools.product((0, 1), repeat=threads)
                    if sum(rows) <= steps and sum(rows) % 2 == steps % 2])
        self.assertEqual(can_be(straight(2), [[], ()]), [((0, 1), ()), ((1, 0), ())])

    def test_against_all_runs(self):
        draw = random.Random(1)
        told = {False: 0, True: 0}
        for word, field in SOME.items():
            walker = Walker(field)
            for steps in range(6):
                run = [draw.choice(walker.threads) for _ in range(steps)]
                seen = shown(walker, run)
                found = can_be(field, seen)
                self.are_states(found)
                self.assertEqual(found, slow_can_be(walker, seen), (word, seen))
                self.assertIn(walker.states(run)[-1], found)
                if seen[0]:
                    seen[draw.randrange(len(seen))] = tuple(draw.randrange(2) for _ in field.cells)
                    found = can_be(field, seen)
                    self.assertEqual(found, slow_can_be(walker, seen), (word, seen))
                    told[bool(found)] += 1
        self.assertGreater(min(told.values()), 50, told)

    def test_long_runs(self):
        draw = random.Random(2)
        for field in (onebit(5), announcing(5), looking(5), straight(5), *[drawn(seed, 5, 5, 22) for seed in range(3)]):
            walker = Walker(field)
            # Thread by thread for the most part, so that not too many states can be.
            run = [thread for thread in draw.choices(walker.threads, k=8) for _ in range(4)]
            found = can_be(field, shown(walker, run))
            self.are_states(found)
            self.assertIn(walker.states(run)[-1], found)
            states = {walker.start}
            for worths in shown(walker, run)[1:]:
                behind = {walker.step(state, thread) for state in states for thread in walker.threads}
                states = {state for state in behind if state[1] == worths}
            self.assertEqual(found, sorted(states))

    def test_bad_lists(self):
        for field in (onebit(2), straight(2), looking(2)):
            for wrong in (*NOT_LISTS, [], ()):
                self.bad(0, can_be, field, wrong)

    def test_bad_worths(self):
        field = onebit(2)
        for wrong in NOT_WORTHS:
            self.bad(0, can_be, field, [wrong])
            self.bad(1, can_be, field, [(0, 0), wrong])
            self.bad(2, can_be, field, ((0, 0), [0, 0], wrong, (0, 0), wrong))
            # Also behind what cannot be seen.
            self.bad(2, can_be, field, [(7, 7), (7, 7), wrong])
            self.bad(3, can_be, field, [(0, 0), (1, 1), (0, 0), wrong])
        for wrong in ((0,), [0], None, True, 0, ""):
            self.bad(0, can_be, straight(2), [wrong])
            self.bad(1, can_be, straight(2), [(), wrong])

    def test_nothing_changes(self):
        field = looking(2)
        text, seen = field.text(), [[0], [0], [0]]
        found = can_be(field, seen)
        self.assertEqual((field.text(), seen, field), (text, [[0], [0], [0]], looking(2)))
        found.clear()
        self.assertEqual(can_be(field, seen), can_be(looking(2), ((0,), (0,), (0,))))
        self.assertEqual(can_be(seen=seen, field=field), can_be(field, seen))


class WatchTest(SeenTest):
    def agrees(self, watch, field, seen):
        """Check all that a watch tells of a field of which this has been seen."""
        self.assertEqual(watch.seen(), seen)
        self.assertEqual([type(worths) for worths in watch.seen()], [tuple] * len(seen))
        states = can_be(field, seen)
        self.are_states(watch.states())
        self.assertEqual(watch.states(), states)
        walker = Walker(field)
        inside = [walker.sort(state, "inside") for state in states]
        surely = set.intersection(*inside) if inside else set()
        self.assertEqual(watch.surely(), sorted(surely))
        self.assertEqual(watch.perhaps(), sorted(set().union(*inside)))
        self.assertEqual(watch.field, field)

    def test_at_first(self):
        for word, field in known(5).items():
            self.agrees(Watch(field), field, [field.start()[1]])
        self.assertEqual(Watch(field=looking(2)).seen(), [(0,)])

    def test_the_field(self):
        field = peterson()
        watch = Watch(field)
        self.assertEqual(watch.field, peterson())
        with self.assertRaises(AttributeError):
            watch.field = looking(2)
        self.assertEqual(watch.field, peterson())

    def test_see(self):
        watch = Watch(looking(2))
        self.assertIs(watch.see((0,)), True)
        self.assertIs(watch.see([0]), True)
        self.assertIs(watch.see(worths=(1,)), True)
        self.agrees(watch, looking(2), [(0,), (0,), (0,), (1,)])
        self.assertEqual((watch.surely(), watch.perhaps()), ([], [0, 1]))
        self.assertIs(watch.see((2,)), False)
        self.agrees(watch, looking(2), [(0,), (0,), (0,), (1,), (2,)])
        self.assertEqual((watch.states(), watch.surely(), watch.perhaps()), ([], [], []))
        # It goes on, though nothing can be any more.
        self.assertIs(watch.see((1,)), False)
        self.assertEqual(watch.seen(), [(0,), (0,), (0,), (1,), (2,), (1,)])
        self.assertIsNone(watch.undo())
        self.assertIsNone(watch.undo())
        self.agrees(watch, looking(2), [(0,), (0,), (0,), (1,)])

    def test_surely(self):
        watch = Watch(straight(1))
        self.assertEqual((watch.surely(), watch.perhaps()), ([], []))
        watch.see(())
        self.assertEqual((watch.surely(), watch.perhaps()), ([0], [0]))
        # Two that write 1 and are inside thereby, two that are inside for sure.
        rows = [("rest", 1), ("write", "a", 1, 2), ("inside", 3), ("write", "a", 0, 0)]
        field = field_of("ab", [rows, [("rest", 1), ("write", "b", 1, 2), ("inside", 3), ("write", "b", 0, 0)]])
        watch = Watch(field)
        for worths in ((0, 0), (0, 1), (0, 1)):
            self.assertIs(watch.see(worths), True)
        self.assertEqual((watch.surely(), watch.perhaps()), ([], [1]))
        watch.undo()
        self.assertEqual((watch.surely(), watch.perhaps()), ([1], [1]))
        watch = Watch(field)
        for worths in ((0, 0), (0, 0), (1, 0), (1, 1)):
            self.assertIs(watch.see(worths), True)
        self.assertEqual((watch.surely(), watch.perhaps()), ([0, 1], [0, 1]))

    def test_no_deed(self):
        for field in (looking(2), straight(1)):
            watch = Watch(field)
            for call in (watch.undo, watch.again, watch.undo):
                self.assertRaises(NoDeed, call)
            self.agrees(watch, field, [field.start()[1]])
            watch.see(field.start()[1])
            self.assertRaises(NoDeed, watch.again)
            watch.undo()
            self.assertRaises(NoDeed, watch.undo)
            self.agrees(watch, field, [field.start()[1]])
            self.assertIsNone(watch.again())
            self.assertRaises(NoDeed, watch.again)
            self.agrees(watch, field, [field.start()[1]] * 2)

    def test_undo_and_again(self):
        field = looking(2)
        seen = [(0,), (0,), (0,), (1,), (5,), (0,)]
        watch = Watch(field)
        for worths in seen[1:]:
            watch.see(worths)
        for many in range(5, 0, -1):
            self.assertIsNone(watch.undo())
            self.agrees(watch, field, seen[:many])
        for many in range(2, 7):
            self.assertIsNone(watch.again())
            self.agrees(watch, field, seen[:many])
        self.assertRaises(NoDeed, watch.again)

    def test_seeing_anew_ends_what_was_undone(self):
        for worths in ((0,), (7,)):
            watch = Watch(looking(2))
            watch.see((0,))
            watch.see((0,))
            watch.undo()
            # Be it with the same worths.
            watch.see(worths)
            self.assertRaises(NoDeed, watch.again)
            self.agrees(watch, looking(2), [(0,), (0,), worths])
            watch.undo()
            watch.undo()
            watch.see(worths)
            self.assertRaises(NoDeed, watch.again)
            self.agrees(watch, looking(2), [(0,), worths])

    def test_drawn_deeds(self):
        draw = random.Random(3)
        for word, field in SOME.items():
            walker = Walker(field)
            watch, seen, undone, state = Watch(field), [walker.start[1]], [], walker.start
            for _ in range(25):
                deed = draw.choice(["see", "see", "see", "undo", "again"])
                if deed == "see":
                    state = walker.step(draw.choice(watch.states() or [state]), draw.choice(walker.threads))
                    worths = state[1]
                    if draw.random() < 0.05:
                        worths = tuple(draw.randrange(3) for _ in field.cells)
                    self.assertIs(watch.see(worths), bool(can_be(field, seen + [worths])))
                    seen.append(worths)
                    undone = []
                elif deed == "undo" and len(seen) > 1:
                    watch.undo()
                    undone.append(seen.pop())
                elif deed == "again" and undone:
                    watch.again()
                    seen.append(undone.pop())
                else:
                    self.assertRaises(NoDeed, watch.undo if deed == "undo" else watch.again)
                self.agrees(watch, field, seen)

    def test_bad_worths(self):
        field = onebit(2)
        watch = Watch(field)
        seen = [(0, 0)]
        for step in range(1, 4):
            for wrong in NOT_WORTHS:
                self.bad(step, watch.see, wrong)
            self.agrees(watch, field, seen)
            watch.see([0, 0])
            seen.append((0, 0))
        watch.see((9, 9))
        self.bad(5, watch.see, None)
        watch.undo()
        watch.undo()
        # A watch that refuses stays as it was: what was undone can still be seen again.
        for wrong in NOT_WORTHS:
            self.bad(3, watch.see, wrong)
        self.agrees(watch, field, seen[:-1])
        watch.again()
        watch.again()
        self.agrees(watch, field, seen + [(9, 9)])
        for wrong in ((0,), None, "", {}):
            self.bad(1, Watch(straight(2)).see, wrong)

    def test_what_is_returned_is_new(self):
        watch = Watch(looking(2))
        worths = [0]
        watch.see(worths)
        worths[0] = 8
        for call in (watch.seen, watch.states, watch.surely, watch.perhaps):
            kept = call()
            kept.append(None)
            self.assertEqual(call(), kept[:-1])
            call().clear()
            self.assertEqual(call(), kept[:-1])
        watch.states().clear()
        watch.seen().clear()
        self.assertIs(watch.see([0]), True)
        self.agrees(watch, looking(2), [(0,), (0,), (0,)])

    def test_two_watches(self):
        one, other = Watch(looking(2)), Watch(looking(2))
        one.see((0,))
        self.agrees(other, looking(2), [(0,)])
        other.see((5,))
        self.agrees(one, looking(2), [(0,), (0,)])

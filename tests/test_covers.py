"""Promises 10, 12 and 13: covers and foils."""

import random
import unittest

from coveredcells.covers import cover, foil
from coveredcells.errors import BadCount, Enough
from coveredcells.fields import Field
from coveredcells.runs import is_clash, is_cover, is_standstill
from tests.locks import (
    LETTERS, Walker, announcing, changed, dekker, drawn, endless, field_of, known, looking, merged, onebit,
    onebit_rows, peterson, straight, turning)

SAFE = {"peterson": peterson(), "dekker": dekker(), **{f"onebit {many}": onebit(many) for many in range(2, 6)}}


def counting(order):
    """Return the rows of a thread that counts up over cells, by figures from 0 to 3, and then goes inside."""
    rows = [("rest", 1)]
    for cell in order:
        here = len(rows)
        rows.append(("read", cell, {0: here + 1, 1: here + 2, 2: here + 3}, here + 4))
        rows += [("write", cell, worth, 1) for worth in (1, 2, 3)] + [("write", cell, 0, here + 5)]
    return rows + [("inside", 0)]


def shifting(me, threads):
    """Return the rows of a thread of the one-bit field that first writes a hint, or else a cell of its own."""
    rows = onebit(threads).programs[me].rows()
    rows = [row[:-1] + (row[-1] + 4,) if row[0] != "read" else
            (row[0], row[1], {worth: number + 4 for worth, number in row[2].items()}, row[3] + 4) for row in rows]
    rows[-1] = rows[-1][:-1] + (0,)
    hint = [("rest", 1), ("read", "hint", {0: 2}, 3), ("write", "hint", 1, 4), ("write", LETTERS[me], 0, 4),
            ("write", "hint", 0, 5)]
    return hint + rows[1:]


def circling(me, length):
    """Return the rows of a thread that goes round for ever if it finds the cells of three other threads written."""
    own = LETTERS[me]
    rows = [("rest", 1), ("write", own, 1, 2)]
    end = 5 + length
    for other in "abcd".replace(own, ""):
        rows.append(("read", other, {0: end}, len(rows) + 1))
    for at in range(5, end):
        rows.append(("read", own, {2: end}, at + 1 if at + 1 < end else 5))
    return rows + [("inside", end + 1), ("write", own, 0, 0)]


class OutcomesTest(unittest.TestCase):
    def holds(self, field, count, outcome, word):
        """Check an outcome by the tests' own walker; count is None if it is not to be a cover."""
        self.assertIs(type(outcome), tuple, word)
        self.assertEqual([type(run) for run in outcome[1:]], [list] * (1 if outcome[0] == "clash" else 2), word)
        for run in outcome[1:]:
            self.assertEqual({type(thread) for thread in run} - {int}, set(), word)
        walker = Walker(field)
        if outcome[0] == "cover":
            self.assertIsNotNone(count, word)
            self.assertTrue(walker.cover(count, *outcome[1:]), (word, count))
            self.assertTrue(is_cover(field, count, *outcome[1:]), (word, count))
        elif outcome[0] == "clash":
            self.assertTrue(walker.clash(*outcome[1:]), (word, count))
            self.assertTrue(is_clash(field, *outcome[1:]), (word, count))
        else:
            self.assertEqual(outcome[0], "standstill", word)
            self.assertTrue(walker.standstill(*outcome[1:]), (word, count))
            self.assertTrue(is_standstill(field, *outcome[1:]), (word, count))
        return outcome[0]

    def all_hold(self, field, word):
        """Check all covers of a field, and its foil if it has one, and return the words of the covers."""
        words = [self.holds(field, count, cover(field, count), word) for count in range(len(field) + 1)]
        if len(field.cells) < len(field):
            self.holds(field, None, foil(field), word)
            self.assertTrue(all(found != "cover" for found in words[len(field.cells) + 1:]), word)
        return words


class CoverTest(OutcomesTest):
    def test_of_the_document(self):
        word, run, twin = cover(onebit(3), 3)
        self.assertEqual(word, "cover")
        self.assertTrue(is_cover(onebit(3), 3, run, twin))

    def test_of_no_thread(self):
        for word, field in known(5).items():
            if len(field) > 1:
                self.assertEqual(cover(field, 0), ("cover", [], []), word)

    def test_fields_that_are_safe_and_go_on_have_all_covers(self):
        for word, field in SAFE.items():
            self.assertEqual(self.all_hold(field, word), ["cover"] * (len(field) + 1), word)

    def test_known_fields(self):
        for word, field in known(5).items():
            if len(field) > 1:
                self.all_hold(field, word)

    def test_two_cells_made_one(self):
        found = [self.all_hold(field, word)[-1] for word, field in merged(5).items() if len(field) > 1]
        self.assertEqual(set(found), {"cover", "standstill"})
        doors = [("rest", 1), ("read", "a", {0: 2}, 1), ("write", "a", 1, 3), ("write", "b", 1, 4), ("inside", 5),
                 ("write", "b", 0, 6), ("write", "a", 0, 0)]
        for threads in range(3, 6):
            for field in (field_of("ab", [doors] * threads), field_of("ab", [doors] * threads).merged("a", "b")):
                self.assertEqual(self.all_hold(field, threads)[-1], "clash")

    def test_a_row_changed(self):
        for word, field in known(4).items():
            if len(field) > 1 and field.cells and not word.startswith("endless"):
                for seed in range(25):
                    self.all_hold(changed(field, seed), (word, seed))

    def test_drawn_fields(self):
        draw = random.Random(10)
        found = {"cover": 0, "clash": 0, "standstill": 0}
        for seed in range(400):
            field = drawn(seed, draw.randrange(2, 6), draw.randrange(6), draw.choice([4, 8, 22]))
            for word in self.all_hold(field, seed):
                found[word] += 1
        self.assertGreater(min(found.values()), 100, found)

    def test_first_cells_that_change(self):
        for threads in range(2, 5):
            field = field_of(["hint", *LETTERS[:threads]], [shifting(me, threads) for me in range(threads)])
            self.all_hold(field, threads)

    def test_threads_that_count(self):
        # Far too many states to go through, and long ways alone and in turn.
        for threads in (2, 5):
            self.all_hold(field_of("abcde", [counting("abcd")] * threads), threads)
            orders = ["abcde"[at:] + "abcde"[:at] for at in range(threads)]
            self.all_hold(field_of("abcde", [counting(order[:4]) for order in orders]), orders)

    def test_threads_that_go_round_by_different_numbers_of_steps(self):
        # Steps by turns would take 17 * 16 * 15 * 13 turns to come back to one state.
        rows = [circling(me, length) for me, length in enumerate((17, 16, 15, 13))] + [onebit_rows(4, 5)]
        field = field_of(LETTERS, rows)
        self.assertEqual(self.all_hold(field, "circling")[-1], "standstill")

    def test_as_many_cells_as_threads_and_more(self):
        for many in range(2, 6):
            field = Field(list(LETTERS), onebit(many).programs)
            self.assertEqual(self.all_hold(field, many), ["cover"] * (many + 1))

    def test_exits_that_write(self):
        # A thread that covers a cell is ahead of being inside, whatever its exit writes.
        rows = [("rest", 1), ("write", "a", 1, 2), ("inside", 3), ("write", "b", 1, 4), ("write", "a", 0, 5),
                ("write", "b", 0, 0)]
        self.all_hold(field_of("ab", [rows] * 3), "exits")
        rows = [("rest", 1), ("inside", 2), ("write", "a", 1, 3), ("write", "b", 1, 0)]
        self.assertEqual(self.all_hold(field_of("ab", [rows] * 2), "no entry"), ["cover", "clash", "clash"])

    def test_threads_that_rest_at_several_rows(self):
        rows = [("rest", 1), ("write", "a", 1, 2), ("inside", 3), ("rest", 4), ("write", "b", 1, 5), ("inside", 6),
                ("write", "a", 0, 7), ("write", "b", 0, 0)]
        for threads in range(2, 6):
            self.all_hold(field_of("ab", [rows] * threads), threads)

    def test_a_ring_where_others_have_left_their_mark(self):
        # Thread 2 waits for ever only behind what the others, when they come to rest, have written into the cell c.
        rows = [[("rest", 1), ("write", own, 1, 2), ("inside", 3), ("write", "c", 1, 0)] for own in "ab"]
        rows.append([("rest", 1), ("read", "c", {1: 1}, 2), ("write", "c", 0, 3), ("inside", 0)])
        field = field_of("abc", rows)
        self.assertEqual(self.all_hold(field, "mark"), ["cover", "cover", "cover", "standstill"])
        # Thread 0 covers another cell when it finds its own mark; only then thread 1 waits for ever.
        rows = [[("rest", 1), ("read", "c", {1: 3}, 2), ("write", "a", 1, 4), ("write", "b", 1, 4), ("inside", 5),
                 ("write", "c", 1, 0)],
                [("rest", 1), ("read", "c", {1: 1}, 2), ("write", "b", 0, 3), ("inside", 0)]]
        field = field_of("abc", rows)
        self.assertEqual(self.all_hold(field, "own mark"), ["cover", "cover", "standstill"])

    def test_bad_counts(self):
        for field in (onebit(3), looking(3), straight(3)):
            for count in (True, False, None, -1, 4, 10 ** 5000, -10 ** 5000, "2", "", b"2", [2], (), {}, object(), 2.0):
                with self.assertRaises(BadCount) as caught:
                    cover(field, count)
                self.assertIs(caught.exception.count, count)

    def test_one_thread(self):
        for field in (onebit(1), looking(1), straight(1), turning(1)):
            for count in (0, 1, 2, -1, True, None, "1"):
                with self.assertRaises(BadCount) as caught:
                    cover(field, count)
                self.assertIs(caught.exception.count, count)


class FoilTest(OutcomesTest):
    def test_of_the_document(self):
        self.assertEqual([foil(looking(2))[0], foil(turning(2))[0]], ["clash", "standstill"])

    def test_known_fields(self):
        for threads in range(2, 6):
            for make, word in ((looking, "clash"), (turning, "standstill"), (straight, "clash")):
                self.assertEqual(self.holds(make(threads), None, foil(make(threads)), threads), word)
            field = announcing(threads).merged("a", "b")
            self.assertNotEqual(self.holds(field, None, foil(field), threads), "cover")
        self.assertEqual(self.holds(endless(2), None, foil(endless(2)), "endless"), "standstill")

    def test_no_cell(self):
        for threads in range(2, 6):
            self.assertEqual(self.holds(straight(threads), None, foil(straight(threads)), threads), "clash")

    def test_no_thread_covers_a_cell_yet(self):
        # Thread 0 comes inside without writing; thread 1, which writes and waits, goes alone in its place.
        goes = [("rest", 1), ("inside", 0)]
        waits = [("rest", 1), ("write", "a", 1, 2), ("read", "a", {2: 3}, 2), ("inside", 0)]
        comes = [("rest", 1), ("write", "a", 1, 2), ("inside", 0)]
        for rows, found in ((waits, "standstill"), (comes, "clash"), (goes, "clash")):
            for threads in (2, 3):
                field = field_of("a", [goes] + [rows] * (threads - 1))
                self.assertEqual(self.holds(field, None, foil(field), found), found)

    def test_covering_threads_that_do_not_come_inside(self):
        # Thread 1 comes inside past the covered cell; thread 0 then waits for ever, as if thread 1 were not there.
        waits = [("rest", 1), ("write", "a", 1, 2), ("read", "a", {0: 3}, 2), ("inside", 4), ("write", "a", 0, 0)]
        field = field_of("a", [waits, [("rest", 1), ("write", "a", 2, 2), ("inside", 0)]])
        self.assertEqual(self.holds(field, None, foil(field), "waits"), "standstill")

    def test_enough(self):
        fields = [peterson(), dekker(), straight(1), looking(1), turning(1), endless(1), onebit(5)]
        fields += [onebit(many) for many in range(1, 6)] + [announcing(many) for many in range(1, 6)]
        fields += [Field(list(LETTERS[:cells]), straight(threads).programs)
                   for threads in range(1, 6) for cells in range(6) if cells >= threads or threads == 1]
        for field in fields:
            with self.assertRaises(Enough) as caught:
                foil(field)
            self.assertEqual(caught.exception.number, len(field.cells))

    def test_one_cell_fewer_than_threads(self):
        for threads in range(2, 6):
            for cells in range(threads):
                field = Field(list(LETTERS[:cells]), straight(threads).programs)
                self.assertEqual(self.holds(field, None, foil(field), threads), "clash")


class NothingChangesTest(unittest.TestCase):
    def test_lists_are_new_and_values_equal(self):
        for make, call in ((lambda: onebit(3), lambda field: cover(field, 3)),
                           (lambda: onebit(3), lambda field: cover(field, 0)),
                           (lambda: looking(3), foil), (lambda: turning(3), foil), (lambda: straight(2), foil),
                           (lambda: announcing(3), lambda field: cover(field, 3))):
            field = make()
            text, outcome = field.text(), call(field)
            self.assertEqual(outcome, call(make()))
            again = call(field)
            self.assertEqual(outcome, again)
            for run in again[1:]:
                run.append(0)
                run.clear()
            self.assertEqual(outcome, call(field))
            self.assertEqual((field.text(), field), (text, make()))

    def test_runs_of_one_outcome_are_not_one_list(self):
        _, run, twin = cover(onebit(2), 0)
        run.append(7)
        self.assertEqual(twin, [])

    def test_names_of_parameters(self):
        self.assertEqual(cover(count=2, field=onebit(2)), cover(onebit(2), 2))
        self.assertEqual(foil(field=looking(2)), foil(looking(2)))

"""Promises 5 and 6: fields, states and steps."""

import unittest

from coveredcells.errors import BadCell, BadField
from coveredcells.fields import Field
from coveredcells.programs import Program

SMALL = Program([("rest", 1), ("inside", 0)])


def onebit(own, other):
    """Return the rows of a thread that waits while another one has its bit set."""
    return [("rest", 1), ("write", own, 1, 2), ("read", other, {0: 3}, 2), ("inside", 4), ("write", own, 0, 0)]


def pair():
    return Field(["b", "a"], [Program(onebit("a", "b")), Program(onebit("b", "a"))])


class FieldTest(unittest.TestCase):
    def bad(self, cells, programs, place):
        with self.assertRaises(BadField) as caught:
            Field(cells, programs)
        self.assertEqual(caught.exception.place, place)

    def test_properties(self):
        field = pair()
        self.assertEqual(field.cells, ("a", "b"))
        self.assertIsInstance(field.cells, tuple)
        self.assertEqual(field.programs, (Program(onebit("a", "b")), Program(onebit("b", "a"))))
        self.assertIsInstance(field.programs, tuple)
        self.assertEqual(Field(cells=("z", "a", "m"), programs=(SMALL,)).cells, ("a", "m", "z"))

    def test_properties_are_not_assigned(self):
        field = pair()
        for name in ("cells", "programs"):
            with self.assertRaises(AttributeError):
                setattr(field, name, ())
        self.assertEqual(field, pair())

    def test_what_is_passed_is_copied(self):
        cells, programs = ["b", "a"], [SMALL, SMALL]
        field = Field(cells, programs)
        self.assertEqual((cells, programs), (["b", "a"], [SMALL, SMALL]))
        cells.append("c")
        programs.pop()
        self.assertEqual((field.cells, len(field)), (("a", "b"), 2))

    def test_numbers_of_cells(self):
        for cells in ([], ["a"], list("edcba")):
            self.assertEqual(Field(cells, [SMALL]).cells, tuple(sorted(cells)))
        self.bad(list("abcdef"), [SMALL], "cells")

    def test_numbers_of_threads(self):
        for many in (1, 2, 5):
            self.assertEqual(len(Field([], [SMALL] * many)), many)
        self.bad([], [], "programs")
        self.bad([], (), "programs")
        self.bad([], [SMALL] * 6, "programs")

    def test_bad_cells(self):
        for cells in (None, True, 0, "a", "", b"", {}, {"a": 1}, object(), ["a", "a"], ["a", "b", "a"], [None],
                      [True], [1], ["A"], [""], ["abcdefghi"], ["a1"], [["a"]], [("a",)], [{}], [b"a"], ["\u00e4"],
                      iter(["a"]), {"a"}):
            self.bad(cells, [SMALL], "cells")
            self.bad(cells, None, "cells")
        self.bad(["a"] * 6, [SMALL], "cells")

    def test_bad_programs(self):
        for programs in (None, True, 0, "a", {}, object(), SMALL, pair(), [None], [SMALL, None], [SMALL.rows()],
                         [SMALL.text()], [[SMALL]], [True], iter([SMALL]), {0: SMALL}):
            self.bad([], programs, "programs")

    def test_programs_keep_to_the_cells(self):
        one = Program(onebit("a", "b"))
        self.bad(["a"], [one], "programs")
        self.bad(["b"], [one], "programs")
        self.bad([], [one], "programs")
        self.bad(["a", "c"], [SMALL, one], "programs")
        self.assertEqual(len(Field(["c", "b", "a"], [SMALL, one])), 2)
        unmet = Program([("rest", 1), ("inside", 0), ("write", "z", 0, 0)])
        self.bad(["a"], [unmet], "programs")

    def test_equal(self):
        self.assertTrue(pair() == pair())
        self.assertFalse(pair() != pair())
        programs = list(pair().programs)
        for other in (Field(["a", "b"], programs[::-1]), Field(["a", "b", "c"], programs),
                      Field(["a", "b"], programs[:1]), Field(["a", "b"], programs + [SMALL])):
            self.assertFalse(pair() == other)
            self.assertTrue(pair() != other)

    def test_not_equal_to_other_kinds(self):
        class Everything:
            def __eq__(self, other):
                return True

        field = Field([], [SMALL])
        for value in (SMALL, ((), (SMALL,)), field.text(), None, 1, True, object(), Everything()):
            self.assertIs(field == value, False)
            self.assertIs(field != value, True)
        self.assertIs(SMALL == field, False)


class StatesTest(unittest.TestCase):
    def test_start(self):
        self.assertEqual(pair().start(), ((0, 0), (0, 0)))
        self.assertEqual(Field([], [SMALL]).start(), ((0,), ()))
        self.assertEqual(Field(list("abcde"), [SMALL] * 5).start(), ((0,) * 5, (0,) * 5))

    def test_steps(self):
        field = pair()
        state = field.start()
        met = []
        for thread in (0, 1, 0, 1, 0, 0):
            state = field.step(state, thread)
            met.append(state)
        self.assertEqual(met, [
            ((1, 0), (0, 0)), ((1, 1), (0, 0)), ((2, 1), (1, 0)), ((2, 2), (1, 1)), ((2, 2), (1, 1)),
            ((2, 2), (1, 1))])

    def test_reads_and_writes_take_the_cell_by_its_name(self):
        program = Program([
            ("rest", 1), ("write", "z", 7, 2), ("read", "b", {7: 1, 3: 3}, 2), ("inside", 4), ("write", "b", 9, 0)])
        field = Field(["z", "b", "m"], [SMALL, program])
        self.assertEqual(field.step(((1, 1), (3, 5, 0)), 1), ((1, 2), (3, 5, 7)))
        self.assertEqual(field.step(((1, 2), (3, 5, 7)), 1), ((1, 3), (3, 5, 7)))
        self.assertEqual(field.step(((1, 2), (7, 3, 3)), 1), ((1, 1), (7, 3, 3)))
        self.assertEqual(field.step(((1, 2), (8, 7, 3)), 1), ((1, 2), (8, 7, 3)))
        self.assertEqual(field.step(((1, 4), (3, 5, 7)), 1), ((1, 0), (9, 5, 7)))
        self.assertEqual(field.step(((1, 4), (3, 5, 7)), 0), ((0, 4), (3, 5, 7)))

    def test_all_cases_of_a_read(self):
        field = Field(["a"], [Program([("rest", 1), ("read", "a", {0: 1, 2: 3, 5: 2}, 2), ("inside", 0), ("inside", 0)])])
        after = [field.step(((1,), (worth,)), 0)[0][0] for worth in range(7)]
        self.assertEqual(after, [1, 2, 3, 2, 2, 2, 2])
        self.assertEqual(field.step(((1,), (10 ** 9000,)), 0), ((2,), (10 ** 9000,)))

    def test_lists_for_tuples(self):
        field = pair()
        state = [[1, 3], [0, 1]]
        after = field.step(state=state, thread=0)
        self.assertEqual(after, ((2, 3), (1, 1)))
        self.assertTrue(all(isinstance(part, tuple) for part in (after, *after)))
        self.assertEqual(state, [[1, 3], [0, 1]])
        self.assertEqual(field.inside(state), [1])
        self.assertEqual(field.resting(state), [])
        self.assertEqual(field.writing(state), {0: "a"})
        self.assertEqual(state, [[1, 3], [0, 1]])

    def test_at_rest_inside_and_about_to_write(self):
        field = Field(["a", "b"], [
            Program(onebit("a", "b")), Program(onebit("b", "a")), SMALL, Program(onebit("b", "a"))])
        start = field.start()
        self.assertEqual((field.inside(start), field.resting(start), field.writing(start)), ([], [0, 1, 2, 3], {}))
        state = ((4, 3, 1, 1), (5, 6))
        self.assertEqual(field.inside(state=state), [1, 2])
        self.assertEqual(field.resting(state=state), [])
        self.assertEqual(list(field.writing(state=state).items()), [(0, "a"), (3, "b")])
        state = ((2, 0, 0, 3), (0, 0))
        self.assertEqual((field.inside(state), field.resting(state), field.writing(state)), ([3], [1, 2], {}))

    def test_a_rest_row_that_is_not_row_0(self):
        field = Field([], [Program([("rest", 1), ("inside", 2), ("rest", 3), ("inside", 0)])])
        self.assertEqual([field.resting(((number,), ())) for number in range(4)], [[0], [], [0], []])
        self.assertEqual([field.inside(((number,), ())) for number in range(4)], [[], [0], [], [0]])

    def test_what_is_returned_is_new(self):
        field = pair()
        state = ((1, 3), (0, 0))
        field.inside(state).append(0)
        field.resting(state).append(0)
        field.writing(state)[1] = "b"
        self.assertEqual((field.inside(state), field.resting(state), field.writing(state)), ([1], [], {0: "a"}))


class MergedTest(unittest.TestCase):
    def bad(self, field, kept, gone, name):
        with self.assertRaises(BadCell) as caught:
            field.merged(kept, gone)
        self.assertIs(caught.exception.name, name)

    def test_merged(self):
        field = Field(["a", "b", "c"], [Program(onebit("a", "b")), Program(onebit("b", "a")), SMALL])
        merged = field.merged("b", "a")
        one = Program(onebit("b", "b"))
        self.assertEqual(merged, Field(["b", "c"], [one, one, SMALL]))
        self.assertEqual(field.merged(kept="a", gone="c"), Field(["a", "b"], field.programs))
        self.assertEqual(field.merged("c", "b").programs[0], Program(onebit("a", "c")))
        self.assertEqual(field.cells, ("a", "b", "c"))
        self.assertEqual(field.programs[0], Program(onebit("a", "b")))

    def test_bad_cells(self):
        class Everything:
            def __eq__(self, other):
                return True

        for wrong in ("c", "", "A", None, True, 0, b"a", ["a"], ("a",), {}, object(), Everything(), "ab"):
            self.bad(pair(), wrong, "a", wrong)
            self.bad(pair(), "a", wrong, wrong)
            self.bad(pair(), wrong, object(), wrong)

    def test_the_same(self):
        self.bad(pair(), "a", "a", "a")
        self.bad(pair(), "c", "c", "c")
        self.bad(Field([], [SMALL]), "a", "a", "a")

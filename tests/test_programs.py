"""Promises 2 to 4: names, worths, rows and ways of programs."""

import itertools
import unittest

from coveredcells.errors import BadProgram, NotOnce
from coveredcells.programs import Program

SMALL = [("rest", 1), ("inside", 0)]
PETERSON = [
    ("rest", 1), ("write", "a", 1, 2), ("write", "turn", 1, 3), ("read", "b", {0: 5}, 4),
    ("read", "turn", {0: 5}, 3), ("inside", 6), ("write", "a", 0, 0),
]
NO_INTEGERS = [True, False, -1, 1.0, "1", None, b"1", [1], (), {}, object()]
NO_NAMES = ["", "A", "aB", "a1", "a b", "a.me", "_", "abcdefghi", "\u00e4", "\u0430", "a\n", " a",
            None, 1, True, b"a", ["a"], ("a",), {"a": 1}, object()]


class Everything:
    """What says that it is equal to everything."""

    def __eq__(self, other):
        return True


def chain(many):
    """Return so many rows: rest, writes, inside."""
    return [("rest", 1)] + [("write", "a", 0, k + 1) for k in range(1, many - 1)] + [("inside", 0)]


class Checks(unittest.TestCase):
    def bad(self, rows, row):
        with self.assertRaises(BadProgram) as caught:
            Program(rows)
        self.assertIs(type(caught.exception), BadProgram)
        self.assertEqual(caught.exception.row, row)
        self.assertNotIsInstance(caught.exception.row, bool)

    def not_once(self, rows, row):
        with self.assertRaises(NotOnce) as caught:
            Program(rows)
        self.assertEqual(caught.exception.row, row)


class RowsTest(Checks):
    def test_rows_come_back(self):
        self.assertEqual(Program(PETERSON).rows(), PETERSON)
        self.assertEqual(Program(rows=PETERSON).rows(), PETERSON)
        self.assertEqual(Program(tuple(SMALL)).rows(), SMALL)

    def test_lists_for_tuples(self):
        program = Program([list(row) for row in PETERSON])
        self.assertEqual(program.rows(), PETERSON)
        self.assertTrue(all(isinstance(row, tuple) for row in program.rows()))
        self.assertEqual(program, Program(PETERSON))

    def test_cases_ascend(self):
        program = Program([("rest", 1), ("read", "a", {7: 1, 0: 2, 10: 1, 3: 2}, 1), ("inside", 0)])
        self.assertEqual(list(program.rows()[1][2].items()), [(0, 2), (3, 2), (7, 1), (10, 1)])

    def test_no_cases(self):
        rows = [("rest", 1), ("read", "a", {}, 2), ("inside", 0)]
        self.assertEqual(Program(rows).rows(), rows)

    def test_what_is_passed_is_copied(self):
        cases = {0: 2}
        read = ["read", "a", cases, 1]
        rows = [["rest", 1], read, ["inside", 0]]
        program = Program(rows)
        self.assertEqual((rows, cases), ([["rest", 1], ["read", "a", {0: 2}, 1], ["inside", 0]], {0: 2}))
        cases[1] = 1
        read[1] = "b"
        rows.pop()
        self.assertEqual(program.rows(), [("rest", 1), ("read", "a", {0: 2}, 1), ("inside", 0)])
        self.assertEqual(len(program), 3)

    def test_what_is_returned_is_new(self):
        program = Program(PETERSON)
        rows = program.rows()
        rows[3][2][9] = 0
        rows.clear()
        self.assertEqual(program.rows(), PETERSON)
        program.used().append("z")
        self.assertEqual(program.used(), ["a", "b", "turn"])

    def test_huge_worths(self):
        huge = 10 ** 9000
        rows = [("rest", 1), ("write", "a", huge, 2), ("read", "a", {huge: 3}, 2), ("inside", 0)]
        self.assertEqual(Program(rows).rows(), rows)

    def test_len(self):
        self.assertEqual([len(Program(SMALL)), len(Program(PETERSON))], [2, 7])


class BadProgramTest(Checks):
    def test_numbers_of_rows(self):
        self.assertEqual([len(Program(chain(many))) for many in (2, 3, 59, 60)], [2, 3, 59, 60])
        self.bad([], 0)
        self.bad((), 0)
        self.bad([("rest", 0)], 1)
        for many in (61, 62, 300):
            self.bad(chain(many), many)

    def test_bad_rows_come_ahead_of_their_number(self):
        self.bad([("rest", 1)], 0)
        self.bad([("inside", 0)], 0)
        rows = chain(61)
        rows[7] = ("write", "a", 0, 61)
        self.bad(rows, 7)
        rows[7] = ("write", "a", 0, 60)
        self.bad(rows, 61)

    def test_no_list(self):
        for rows in (None, True, False, 0, 5, "rest", "", b"ab", {}, {0: ("rest", 1), 1: ("inside", 0)}, object(),
                     iter(SMALL), range(3), {1, 2}, Program(SMALL)):
            self.bad(rows, 0)

    def test_row_0_rests(self):
        for row in (("inside", 1), ("write", "a", 0, 1), ("read", "a", {}, 1)):
            self.bad([row, ("inside", 0)], 0)
        self.bad([("inside", 1), ("rest", 0)], 0)

    def test_objects_that_are_no_rows(self):
        for row in (None, True, 1, "rest", "inside 0", b"", [], (), {}, ["inside"], ("inside", 0, 0), ("rest",),
                    ("Inside", 0), ("inside ", 0), ("", 0), (None, 0), (0, 0), (["inside"], 0), (b"inside", 0),
                    ("write", 0), ("read", 0), ("write", "a", 0), ("read", "a", {}), ("write", "a", 0, 0, 0),
                    ("read", "a", {}, 0, 0), ("write", "a", 0, 0)[:2], ("go", "a", 0, 0), ("go", "a", {}, 0), ("inside", "a", {}, 0),
                    ("", "a", {}, 0), (Everything(), 0), (Everything(), "a", 0, 0), object()):
            self.bad([("rest", 1), row], 1)
            self.bad([row, ("rest", 1)], 0)

    def test_a_list_within_itself(self):
        rows = []
        rows.append(rows)
        self.bad(rows, 0)

    def test_numbers_that_are_none(self):
        for number in [*NO_INTEGERS, 2, 3, 10 ** 9000, -10 ** 9000]:
            for row in (("inside", number), ("rest", number), ("write", "a", 0, number), ("read", "a", {}, number),
                        ("read", "a", {0: 0, 1: number}, 0)):
                self.bad([("rest", 1), row], 1)
            self.bad([("rest", number), ("inside", 0)], 0)

    def test_worths_that_are_none(self):
        for worth in NO_INTEGERS:
            self.bad([("rest", 1), ("write", "a", worth, 0)], 1)
        for worth in (True, False, -1, 1.5, "1", None, b"1", (), (1,)):
            self.bad([("rest", 1), ("read", "a", {worth: 0}, 0)], 1)
            self.bad([("rest", 1), ("read", "a", {3: 0, worth: 0}, 0)], 1)

    def test_cases_that_are_none(self):
        for cases in (None, True, 0, "0>1", [], (), [(0, 1)], ((0, 1),), object()):
            self.bad([("rest", 1), ("read", "a", cases, 0)], 1)

    def test_names_that_are_none(self):
        for name in NO_NAMES:
            self.bad([("rest", 1), ("write", name, 0, 0)], 1)
            self.bad([("rest", 1), ("read", name, {}, 0)], 1)

    def test_names(self):
        for name in ("a", "z", "abcdefgh", "zzzzzzzz", "me", "it", "rest"):
            self.assertEqual(Program([("rest", 1), ("write", name, 0, 2), ("inside", 0)]).used(), [name])

    def test_the_first_bad_row(self):
        self.bad([("rest", 1), ("inside", 0), ("rest", 4), None], 2)
        self.bad([("rest", 1), ("inside", 0), None, ("rest", 4)], 2)

    def test_bad_rows_come_ahead_of_ways(self):
        self.bad([("rest", 0), None], 1)
        self.bad([("rest", 0)] * 61, 61)


def against(rows, first, most):
    """Tell whether a way of at most so many rows from a rest row on is against point 4, by walking all of them."""
    ways = [[first]]
    while ways:
        way = ways.pop()
        times = [rows[k][0] for k in way].count("inside")
        rests = len(way) > 1 and rows[way[-1]][0] == "rest"
        if times > 1 or (rests and times != 1):
            return True
        if len(way) < most and not rests:
            row = rows[way[-1]]
            ways.extend(way + [k] for k in {row[-1], *(row[2].values() if row[0] == "read" else ())})
    return False


class NotOnceTest(Checks):
    def test_none(self):
        self.not_once([("rest", 0), ("inside", 0)], 0)
        self.not_once([("rest", 1), ("rest", 0)], 0)
        self.not_once([("rest", 1), ("write", "a", 1, 0)], 0)
        self.not_once([("rest", 1), ("read", "a", {0: 0}, 2), ("inside", 0)], 0)
        self.not_once([("rest", 1), ("read", "a", {0: 2}, 0), ("inside", 0)], 0)

    def test_twice(self):
        self.not_once([("rest", 1), ("inside", 1)], 0)
        self.not_once([("rest", 1), ("inside", 2), ("inside", 0)], 0)
        self.not_once([("rest", 1), ("inside", 2), ("read", "a", {5: 1}, 0)], 0)
        self.not_once([("rest", 1), ("inside", 2), ("write", "a", 0, 3), ("inside", 4), ("write", "a", 1, 4)], 0)

    def test_going_round(self):
        for rows in ([("rest", 1), ("write", "a", 0, 1)], [("rest", 1), ("read", "a", {0: 2}, 1), ("inside", 0)],
                     [("rest", 1), ("inside", 2), ("write", "a", 0, 2)],
                     [("rest", 1), ("read", "a", {0: 2}, 1), ("read", "a", {0: 1}, 3), ("inside", 0)]):
            self.assertEqual(Program(rows).rows(), rows)

    def test_the_least_rest_row(self):
        good, none = ("inside", 0), ("write", "a", 0, 0)
        self.not_once([("rest", 1), good, ("rest", 3), none, ("rest", 3)], 2)
        self.not_once([("rest", 1), good, ("rest", 1), ("rest", 2)], 3)
        self.not_once([("rest", 1), ("write", "a", 0, 2), ("rest", 3), good], 0)

    def test_rest_rows_that_are_not_met_count(self):
        self.not_once([("rest", 1), ("inside", 0), ("rest", 2)], 2)

    def test_rows_behind_no_rest_row_do_not_count(self):
        rows = [("rest", 1), ("inside", 0), ("inside", 2), ("write", "a", 0, 0)]
        self.assertEqual(Program(rows).rows(), rows)

    def test_several_rest_rows(self):
        rows = [("rest", 1), ("inside", 2), ("rest", 3), ("write", "a", 0, 4), ("inside", 0)]
        self.assertEqual(Program(rows).rows(), rows)

    def test_all_small_programs(self):
        sorts = []
        for k in range(3):
            sorts += [("rest", k), ("inside", k), ("write", "a", 1, k)]
            sorts += [("read", "a", {0: k}, other) for other in range(3)]
        counts = [0, 0]
        for rows in itertools.product([("rest", 0), ("rest", 1), ("rest", 2)], sorts, sorts):
            wrong = [k for k in range(3) if rows[k][0] == "rest" and against(rows, k, 8)]
            if wrong:
                self.not_once(rows, wrong[0])
            else:
                self.assertEqual(Program(rows).rows(), list(rows))
            counts[bool(wrong)] += 1
        self.assertTrue(min(counts) > 100, counts)


class MethodsTest(unittest.TestCase):
    def test_used(self):
        self.assertEqual(Program(SMALL).used(), [])
        self.assertEqual(Program(PETERSON).used(), ["a", "b", "turn"])
        rows = [("rest", 1), ("inside", 0), ("write", "z", 0, 0), ("read", "b", {}, 0), ("read", "z", {}, 0)]
        self.assertEqual(Program(rows).used(), ["b", "z"])

    def test_renamed(self):
        names = {"a": "b", "b": "a", "other": "c"}
        program = Program(PETERSON)
        renamed = program.renamed(names)
        self.assertEqual(renamed.rows(), [
            ("rest", 1), ("write", "b", 1, 2), ("write", "turn", 1, 3), ("read", "a", {0: 5}, 4),
            ("read", "turn", {0: 5}, 3), ("inside", 6), ("write", "b", 0, 0)])
        self.assertEqual((program.rows(), names), (PETERSON, {"a": "b", "b": "a", "other": "c"}))
        self.assertEqual(program.renamed(names={}), program)
        self.assertEqual(program.renamed({"a": "b"}).used(), ["b", "turn"])
        self.assertIsInstance(renamed, Program)

    def test_names_like_sorts_are_not_taken_for_them(self):
        rows = [("rest", 1), ("write", "rest", 0, 2), ("inside", 0)]
        renamed = Program(rows).renamed({"rest": "write", "write": "rest", "inside": "read"})
        self.assertEqual(renamed.rows(), [("rest", 1), ("write", "write", 0, 2), ("inside", 0)])

    def test_equal(self):
        read = [("rest", 1), ("read", "a", {0: 2, 1: 1}, 1), ("inside", 0)]
        turned = [("rest", 1), ("read", "a", {1: 1, 0: 2}, 1), ("inside", 0)]
        self.assertTrue(Program(read) == Program(turned))
        self.assertFalse(Program(read) != Program(turned))
        for rows in (SMALL, read[:1] + [("read", "a", {0: 2}, 1), ("inside", 0)],
                     read[:1] + [("read", "b", {0: 2, 1: 1}, 1), ("inside", 0)],
                     read[:1] + [("read", "a", {0: 2, 1: 1}, 2), ("inside", 0)]):
            self.assertFalse(Program(read) == Program(rows))
            self.assertTrue(Program(read) != Program(rows))

    def test_not_equal_to_other_kinds(self):
        program = Program(SMALL)
        for value in (SMALL, tuple(SMALL), program.text(), None, 2, True, object(), Everything()):
            self.assertIs(program == value, False)
            self.assertIs(program != value, True)

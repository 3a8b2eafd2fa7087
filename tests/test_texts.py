"""Promise 11: the texts of programs and fields."""

import unittest

from coveredcells.errors import BadField, BadProgram, BadText, NotOnce
from coveredcells.fields import Field
from coveredcells.programs import Program

LONG = 10 ** 30 - 1
SMALL = "rest 1\ninside 0"
ROWS = [("rest", 1), ("write", "turn", 12, 2), ("read", "turn", {5: 3, 0: 2, 10: 3}, 3), ("inside", 0)]
TEXT = "rest 1\nwrite turn 12 2\nread turn 0>2 5>3 10>3 3\ninside 0"
NO_FIGURES = ["", "-1", "+1", "01", "00", "1.0", "1_0", "a", "True", "0x1", "1>", "\u0661", "\u00b2"]
NO_ROWS = [
    "", " ", "rest", "rest ", "rest  1", " rest 1", "rest 1 ", "rest 1 2", "Rest 1", "rest\n1", "rest\t1", "inside",
    "inside 1 1", "write", "write a", "write a 1", "write a 1 1 1", "write 1 1", "write a  1 1", "write A 1 1",
    "write abcdefghi 1 1", "write a1 1 1", "read", "read a", "read 1", "read 0>1 1", "read a 0>1", "read a 1 1",
    "read a 0>1 ", "read a  0>1 1", "read a 0> 1", "read a >1 1", "read a 0>1>1 1", "read a 0<1 1", "read a 0 > 1 1",
    "read a 0>1 0>1 1", "read a 1>1 0>1 1", "read a 0>1 2>1 1>1 1", "read a 9>1 10>1 2>1 1", "read A 1",
    "read abcdefghi 1", "thread 1", "cells", "go 1", "go a 1 1", "go a 1", "1", "rest\r 1",
]


class Checks(unittest.TestCase):
    def raised(self, error, parse, text):
        with self.assertRaises(error) as caught:
            parse(text)
        return caught.exception


class ProgramTextTest(Checks):
    def bad(self, text, line):
        self.assertEqual(self.raised(BadText, Program.parse, text).line, line, text)

    def test_text(self):
        self.assertEqual(Program(ROWS).text(), TEXT)
        self.assertEqual(Program([("rest", 1), ("inside", 0)]).text(), SMALL)
        rows = [("rest", 1), ("read", "turn", {0: 2, 5: 1}, 3), ("read", "abcdefgh", {}, 2), ("inside", 0)]
        self.assertEqual(Program(rows).text().split("\n")[1:3], ["read turn 0>2 5>1 3", "read abcdefgh 2"])

    def test_both_ways(self):
        for rows in (ROWS, ROWS[:1] + [("write", "z", LONG, 2), ("read", "z", {LONG: 3}, 2), ("inside", 0)],
                     [("rest", 1)] + [("read", "a", {}, k + 1) for k in range(1, 59)] + [("inside", 0)]):
            program = Program(rows)
            self.assertEqual(Program.parse(program.text()), program)
            self.assertEqual(Program.parse(program.text()).text(), program.text())
        self.assertEqual(Program.parse(text=TEXT), Program(ROWS))
        self.assertIsInstance(Program.parse(TEXT), Program)

    def test_the_empty_text_has_one_line(self):
        self.bad("", 1)

    def test_lines_that_are_no_rows(self):
        for line in NO_ROWS:
            self.bad(line + "\n" + SMALL, 1)
            if "\n" not in line:
                self.bad(SMALL + "\n" + line, 3)

    def test_figures(self):
        for word in NO_FIGURES:
            for line in (f"rest {word}", f"inside {word}", f"write a {word} 0", f"write a 0 {word}", f"read a {word}",
                         f"read a {word}>0 0", f"read a 0>{word} 0", f"read a 0>0 {word}"):
                self.bad(SMALL + "\n" + line, 3)

    def test_the_first_wrong_line(self):
        self.bad("rest 1\nno\ninside 0\nno", 2)
        self.bad("rest 9\ninside 9\n", 3)
        self.bad("\n", 1)
        self.bad(SMALL + "\n", 3)
        self.bad("\n".join(["rest 0"] * 70 + ["no"]), 71)

    def test_then_what_program_raises(self):
        for text, row in (("rest 0", 1), ("inside 0", 0), ("rest 2\ninside 0", 0), ("rest 1\ninside 2", 1),
                          ("rest 1\nread a 0>9 0", 1), ("rest 1\nread a 0>0 9", 1), (f"rest 1\nwrite a 1 {LONG}", 1),
                          ("\n".join(["rest 0"] * 61), 61)):
            self.assertEqual(self.raised(BadProgram, Program.parse, text).row, row)
        self.assertEqual(self.raised(NotOnce, Program.parse, "rest 1\ninside 0\nrest 2").row, 2)


class FieldTextTest(Checks):
    def bad(self, text, line):
        self.assertEqual(self.raised(BadText, Field.parse, text).line, line, text)

    def test_text(self):
        field = Field(["turn", "b"], [Program(ROWS), Program.parse(SMALL)])
        self.assertEqual(field.text(), f"cells b turn\nthread\n{TEXT}\nthread\n{SMALL}")
        self.assertEqual(Field([], [Program.parse(SMALL)]).text(), f"cells\nthread\n{SMALL}")

    def test_both_ways(self):
        small = Program.parse(SMALL)
        for field in (Field([], [small]), Field(["a"], [small] * 5), Field(list("edcba"), [small]),
                      Field(["turn"], [Program(ROWS), small, Program(ROWS)])):
            self.assertEqual(Field.parse(field.text()), field)
            self.assertEqual(Field.parse(text=field.text()).text(), field.text())
            self.assertIsInstance(Field.parse(field.text()), Field)

    def test_line_1(self):
        for line in ("", "cell", "Cells", " cells", "cells ", "cells  a", "cells b a", "cells a a", "cells a b b",
                     "cells A", "cells 1", "cells abcdefghi", "cells a,b", "thread", "rest 1", "cells\ta", "cells a "):
            self.bad(line, 1)
            self.bad(f"{line}\nthread\n{SMALL}", 1)

    def test_no_line_behind_the_first(self):
        for line in ("cells", "cells a", "cells a b", "cells a b c d e f"):
            self.bad(line, 2)

    def test_line_2(self):
        for line in ("", "rest 1", "cells", "thread ", " thread", "Thread", "threads", "thread 0", "no"):
            self.bad(f"cells\n{line}", 2)
            self.bad(f"cells\n{line}\nthread\n{SMALL}", 2)

    def test_lines_behind(self):
        for line in NO_ROWS:
            if "\n" not in line:
                self.bad(f"cells a\nthread\n{SMALL}\n{line}", 5)
                self.bad(f"cells a\nthread\n{line}\n{SMALL}\nthread\nno", 3)
                self.bad(f"cells a\nthread\n{SMALL}\nthread\n{line}", 6)
        for line in ("thread ", " thread", "Thread"):
            self.bad(f"cells a\nthread\n{SMALL}\n{line}", 5)
        self.bad(f"cells a\nthread\n{SMALL}\n", 5)

    def test_texts_come_ahead_of_programs(self):
        self.bad("cells\nthread\nrest 9\nthread\nno", 5)
        self.bad("cells a b c d e f\nthread\nrest 9\n", 4)

    def test_then_what_program_raises(self):
        for text, row in ((f"cells\nthread\nrest 0\nthread\n{SMALL}", 1), (f"cells\nthread\n{SMALL}\nthread\ninside 0", 0),
                          ("cells\nthread\nrest 1\ninside 5\nthread\nrest 9\ninside 0", 1),
                          ("cells\nthread", 0), (f"cells\nthread\nthread\n{SMALL}", 0),
                          (f"cells\nthread\n{SMALL}\nthread", 0)):
            self.assertEqual(self.raised(BadProgram, Field.parse, text).row, row)
        error = self.raised(NotOnce, Field.parse, "cells\nthread\nrest 1\ninside 0\nrest 2\nthread\nrest 9")
        self.assertEqual(error.row, 2)
        self.assertEqual(self.raised(BadProgram, Field.parse, "cells a b c d e f\nthread\nrest 9").row, 0)

    def test_then_bad_field(self):
        for text, place in ((f"cells a b c d e f\nthread\n{SMALL}", "cells"),
                            ("cells" + f"\nthread\n{SMALL}" * 6, "programs"),
                            (f"cells a\nthread\n{TEXT}", "programs"),
                            ("cells a b c d e f" + f"\nthread\n{SMALL}" * 6, "cells")):
            self.assertEqual(self.raised(BadField, Field.parse, text).place, place)

"""Promises 19 and 20: scripts, and the programs that they tell."""

import random
import re
import unittest

from coveredcells import known
from coveredcells.errors import BadCount, BadField, BadProgram, BadScript, BadThread, NotOnce
from coveredcells.fields import Field
from coveredcells.programs import Program
from coveredcells.scripts import Script
from tests.locks import LETTERS

ONEBIT = """rest
put x.me 1
lower
if x.it not 0
put x.me 0
wait x.it is 0
again
end
end
higher
wait x.it is 0
end
inside
put x.me 0"""
PETERSON = """rest
put x.me 1
put turn next
others
loop
if x.it is 0
out
end
if turn is me
out
end
end
end
inside
put x.me 0"""
DEKKER = """rest
put x.me 1
others
loop
if x.it is 0
out
end
if turn not me
put x.me 0
wait turn is me
put x.me 1
end
end
end
inside
put turn next
put x.me 0"""
TURNING = "rest\nwait turn is me\ninside\nput turn next"
LOOKING = "rest\nwait door is 0\nput door 1\ninside\nput door 0"
ANNOUNCING = "rest\nput x.me 1\nothers\nwait x.it is 0\nend\ninside\nput x.me 0"
BY_THREADS = {ONEBIT: known.onebit, TURNING: known.turning, LOOKING: known.looking, ANNOUNCING: known.announcing}
NAMES = {"x" + letter: letter for letter in LETTERS}

NOT_COUNTS = (True, False, None, 0, -1, 6, 10 ** 5000, -10 ** 5000, "2", "", b"2", [2], (2,), {}, object(), 2.0)
NOT_THREADS = (True, False, None, -1, 3, 10 ** 5000, -10 ** 5000, "0", "", b"0", [0], (0,), {}, object(), 0.0)

PLAIN = r"[a-z]{1,8}|[a-z]{1,7}\.(?:me|[0-4])"
NUMBER = r"0|[1-9][0-9]*|me|next"


class Wrong(Exception):
    """The tests' own reader has come to a line that cannot stand."""


class Reader:
    """Reads scripts from the grammar, block by block."""

    def __init__(self, text):
        self.lines = text.split("\n")
        self.at = 0

    def wrong(self):
        raise Wrong(self.at + 1)

    def whole(self):
        """Return the nodes of the script behind its first line."""
        if self.lines[0] != "rest":
            self.wrong()
        self.at = 1
        nodes = self.block([], True)
        if self.at < len(self.lines):
            self.wrong()
        return nodes

    def block(self, around, row_first):
        """Return the nodes from here on, up to an `else`, an `end`, or the last line."""
        nodes = []
        while self.at < len(self.lines) and (row_first or self.lines[self.at] not in ("else", "end")):
            nodes.append(self.node(around, row_first))
            row_first = False
        if row_first:
            self.wrong()
        return nodes

    def ended(self, word):
        if self.at >= len(self.lines) or self.lines[self.at] != word:
            self.wrong()
        self.at += 1

    def node(self, around, row_first):
        line = self.lines[self.at]
        own = any(word in ("lower", "higher", "others") for word in around)
        cell = PLAIN + (r"|[a-z]{1,7}\.it" if own else "")
        value = NUMBER + ("|it" if own else "")
        word = line.split(" ")[0]
        if re.fullmatch(rf"inside|put (?:{cell}) (?:{value})|wait (?:{cell}) (?:is|not) (?:{value})", line):
            self.at += 1
            return ("row", line.split(" "))
        if re.fullmatch(rf"if (?:{cell}) (?:is|not) (?:{value})", line):
            self.at += 1
            so, otherwise = self.block(around + ["if"], False), []
            if self.at < len(self.lines) and self.lines[self.at] == "else":
                self.at += 1
                otherwise = self.block(around + ["if"], False)
            self.ended("end")
            return ("if", line.split(" "), so, otherwise)
        if row_first or line not in ("loop", "out", "again", "lower", "higher", "others"):
            self.wrong()
        if line == "out" and "loop" not in around:
            self.wrong()
        self.at += 1
        if line in ("out", "again"):
            return (line,)
        body = self.block(around + [word], line == "loop")
        self.ended("end")
        return (line, body)


def first_wrong(text):
    """Return the number of the first line that cannot stand, None if all can."""
    try:
        Reader(text).whole()
    except Wrong as error:
        return error.args[0]
    return None


class Writer:
    """Writes the rows of a program from the nodes of a script, from the last one to the first."""

    def __init__(self, me, threads):
        self.me, self.threads = me, threads
        self.rows = [None]

    def numbered(self, nodes, it):
        """Return the nodes with a number for each row, written out, and with the numbers that words stand for."""
        found = []
        for node in nodes:
            if node[0] in ("lower", "higher", "others"):
                for other in range(self.threads):
                    if {"lower": other < self.me, "higher": other > self.me, "others": other != self.me}[node[0]]:
                        found += self.numbered(node[1], other)
            elif node[0] in ("row", "if"):
                number = len(self.rows)
                self.rows.append(None)
                blocks = [self.numbered(block, it) for block in node[2:]]
                found.append((node[0], number, self.resolved(node[1], it), *blocks))
            elif node[0] == "loop":
                found.append(("loop", len(self.rows), self.numbered(node[1], it)))
            else:
                found.append(node)
        return found

    def resolved(self, words, it):
        numbers = {"me": self.me, "it": it, "next": self.me + 1 if self.me + 1 < self.threads else 0}
        found = list(words)
        if len(words) > 1:
            name, *whose = words[1].split(".")
            if whose:
                found[1] = name + "abcde"[numbers[whose[0]] if whose[0] in numbers else int(whose[0])]
            found[-1] = numbers[words[-1]] if words[-1] in numbers else int(words[-1])
        return found

    def linked(self, nodes, behind, out):
        """Fill in the rows of nodes, and return the number of the row to which they lead first."""
        for node in reversed(nodes):
            if node[0] == "out":
                behind = out
            elif node[0] == "again":
                behind = 1
            elif node[0] == "loop":
                self.linked(node[2], node[1], behind)
                behind = node[1]
            else:
                behind = self.row(node, behind, out)
        return behind

    def row(self, node, behind, out):
        _, number, words, *blocks = node
        so, otherwise = behind, number
        if blocks:
            so, otherwise = [self.linked(block, behind, out) for block in blocks]
        if words[0] == "inside":
            self.rows[number] = ("inside", behind)
        elif words[0] == "put":
            self.rows[number] = ("write", words[1], words[2], behind)
        elif words[2] == "is":
            self.rows[number] = ("read", words[1], {words[3]: so}, otherwise)
        else:
            self.rows[number] = ("read", words[1], {words[3]: otherwise}, so)
        return number


def slow_rows(text, me, threads):
    """Return the rows of the program of a thread by the tests' own reader and writer."""
    writer = Writer(me, threads)
    nodes = writer.numbered(Reader(text).whole(), None)
    writer.rows[0] = ("rest", writer.linked(nodes, 0, None))
    return writer.rows


def drawn_cell(draw, own):
    name = draw.choice(["a", "it", "flag", "me"])
    return name + draw.choice(["", "", ".me", ".0", ".3", *([".it"] * 3 if own else [])])


def drawn_row(draw, own, word):
    value = draw.choice(["0", "1", "12", "me", "next", *(["it"] * 2 if own else [])])
    if word == "put":
        return f"put {drawn_cell(draw, own)} {value}"
    return f"{word} {drawn_cell(draw, own)} {draw.choice(['is', 'not'])} {value}"


def drawn_block(draw, around, many, may_begin):
    """Return drawn lines of a block, without an `inside`."""
    lines = []
    own = any(word in ("lower", "higher", "others") for word in around)
    for at in range(draw.randrange(many + 1)):
        words = ["put", "wait", "if", "if", "loop", "lower", "higher", "others"] + ["out"] * 2 * ("loop" in around)
        word = draw.choice(words + ["again"] * may_begin)
        if len(around) > 3 and word not in ("out", "again"):
            word = draw.choice(["put", "wait"])
        if word in ("put", "wait"):
            lines.append(drawn_row(draw, own, word))
        elif word in ("out", "again"):
            lines.append(word)
        else:
            lines.append(drawn_row(draw, own, word) if word == "if" else word)
            if word == "loop":
                lines.append(drawn_row(draw, own, draw.choice(["put", "wait"])))
            lines += drawn_block(draw, around + [word], many - 1, may_begin)
            if word == "if" and draw.random() < 0.5:
                lines += ["else", *drawn_block(draw, around + [word], many - 1, may_begin)]
            lines.append("end")
    return lines


def drawn_script(draw, many=4):
    """Return the text of a drawn script, whose threads are inside once if they come so far."""
    lines = ["rest", drawn_row(draw, False, draw.choice(["put", "wait"])), *drawn_block(draw, [], many, True)]
    if draw.random() < 0.3:
        lines += [drawn_row(draw, False, "if"), "inside", "else", "put z 1", "inside", "end"]
    else:
        lines.append("inside")
    return "\n".join(lines + drawn_block(draw, [], many - 1, False))


class ScriptTest(unittest.TestCase):
    def bad(self, text, line):
        with self.assertRaises(BadScript) as caught:
            Script(text)
        self.assertEqual(caught.exception.line, line, text)
        self.assertIs(type(caught.exception.line), int)
        self.assertEqual(first_wrong(text), line, text)

    def good(self, text):
        self.assertIsNone(first_wrong(text), text)
        script = Script(text)
        self.assertEqual(script.text(), text)
        return script

    def rows(self, text, me=0, threads=2):
        """Return the rows that are told, which are held against the tests' own way."""
        rows = self.good(text).program(me, threads).rows()
        self.assertEqual(rows, slow_rows(text, me, threads), text)
        return rows


class TextTest(ScriptTest):
    def test_text_and_equality(self):
        script = self.good(ONEBIT)
        self.assertEqual(script.text(), ONEBIT)
        self.assertTrue(script == Script(ONEBIT))
        self.assertFalse(script != Script(ONEBIT))
        # The same programs, but not the same text.
        other = Script(LOOKING.replace("wait door is 0", "if door not 0\nagain\nend"))
        self.assertEqual(Script(LOOKING).program(0, 1), other.program(0, 1))
        self.assertFalse(Script(LOOKING) == other)
        self.assertTrue(Script(LOOKING) != other)
        self.assertEqual(Script(text=LOOKING), Script(LOOKING))

    def test_not_equal_to_other_kinds(self):
        class Everything:
            def __eq__(self, other):
                return True

        script = Script(LOOKING)
        for value in (LOOKING, script.program(0, 1), script.field_of(1), None, 1, True, object(), Everything(), []):
            self.assertIs(script == value, False)
            self.assertIs(script != value, True)

    def test_the_first_line(self):
        self.bad("", 1)
        for line in ("Rest", "rest ", " rest", "rest 1", "inside", "put a 1", "loop", "end", "res", "rests", "again"):
            self.bad(line, 1)
            self.bad(line + "\ninside", 1)
        self.bad("\nrest\ninside", 1)
        self.bad("rest", 2)
        self.bad("rest\n", 2)
        self.bad("rest\nrest", 2)
        self.bad("rest\ninside\nrest", 3)
        self.bad("rest\ninside\nif a is 0\nrest\nend", 4)

    def test_behind_the_first_line_and_a_loop(self):
        for line in ("inside", "put a 1", "wait a is 0", "if a is 0\nend"):
            self.good("rest\n" + line)
            self.good("rest\ninside\nloop\n" + line + "\nend")
        for line in ("loop", "lower", "higher", "others", "else", "end", "out", "again", "rest", "", " "):
            self.bad("rest\n" + line, 2)
            self.bad("rest\n" + line + "\ninside\nend", 2)
            self.bad("rest\ninside\nloop\n" + line, 4)
            self.bad("rest\ninside\nloop\n" + line + "\ninside\nend\nend", 4)
        self.bad("rest\ninside\nloop", 4)
        # Not behind the line behind it.
        self.good("rest\ninside\nloop\nput a 1\nloop\nput a 0\nend\nout\nagain\nend\nagain")
        self.good("rest\ninside\nlower\nlower\nend\nend\nhigher\nend\nothers\nagain\nend")

    def test_lines_that_are_none(self):
        for line in ("", " ", "no", "Inside", "inside ", " inside", "inside 1", "inside inside", "put", "put a", "put a ",
                     "put a 1 ", "put  a 1", "put a  1", " put a 1", "put a 1 1", "put a is 1", "put A 1", "put a -1",
                     "put a 01", "put a 00", "put a +1", "put a 1.0", "put a one", "put a b", "put a Me", "put 1 a",
                     "put abcdefghi 1", "put abcdefgh.me 1", "put abcdefgh.0 1", "put .me 1", "put . 1", "put a. 1",
                     "put a.5 1", "put a.00 1", "put a.-1 1", "put a.next 1", "put a.Me 1", "put a.me.me 1", "put a.b 1",
                     "put a..me 1", "put a.me. 1", "put a_b 1", "put a1 1", "wait", "wait a", "wait a is", "wait a is ",
                     "wait a 1", "wait a Is 1", "wait a are 1", "wait a is 1 1", "wait is 1", "wait a is not 1",
                     "wait a not is 1", "if", "if a", "if a is", "if a 1", "if a was 1", "if a is 1 ", "if a is -1",
                     "if A is 1", "else 1", "end 1", "end if", "end ", "loop 1", "loop ", "out 1", "again 1", "lower 1",
                     "lower a", "higher ", "others it", "rest", "\t", "put\ta\t1", "write a 1 2", "read a 1", "~"):
            self.bad("rest\n" + line, 2)
            self.bad("rest\n" + line + "\ninside\n", 2)
            self.bad("rest\nif a is 0\nothers\n" + line + "\nend\nend", 4)

    def test_values_and_cells(self):
        for cell in ("a", "z", "abcdefgh", "me", "it", "next", "is", "not", "put", "a.me", "abcdefg.me", "me.me", "it.me",
                     "a.0", "a.1", "a.2", "a.3", "abcdefg.4", "it.4"):
            for value in ("0", "1", "10", "9" * 30, "me", "next"):
                self.good(f"rest\nput {cell} {value}\nwait {cell} is {value}\nif {cell} not {value}\nend")

    def test_it(self):
        for line in ("put a it", "put a.it 1", "wait a is it", "wait a.it not 0", "if a.it is 0", "if a not it",
                     "put it.it it", "put it it", "put abcdefg.it 0"):
            end = "\nend" if line.startswith("if") else ""
            self.bad(f"rest\n{line}", 2)
            self.bad(f"rest\nif a is 0\n{line}", 3)
            self.bad(f"rest\nif a is 0\nelse\n{line}", 4)
            self.bad(f"rest\ninside\nloop\n{line}", 4)
            for word in ("lower", "higher", "others"):
                self.good(f"rest\ninside\n{word}\n{line}{end}\nend")
                self.good(f"rest\ninside\n{word}\nif a is 0\nelse\nloop\n{line}{end}\nend\nend\nend")
                self.good(f"rest\ninside\n{word}\nlower\nend\n{line}{end}\nend")
                # Behind its end it is outside again.
                self.bad(f"rest\ninside\n{word}\nend\n{line}{end}", 5)
        self.bad("rest\ninside\nothers\nput abcdefgh.it 1\nend", 4)
        self.good("rest\nput it 1\nwait it is me\nif it.me not 0\nput it.0 next\nend")

    def test_else(self):
        self.good("rest\nif a is 0\nelse\nend")
        self.good("rest\nif a is 0\nif a is 0\nelse\nend\nelse\nend")
        self.good("rest\nif a is 0\nelse\nif a is 0\nelse\nend\nend")
        self.good("rest\nif a is 0\nloop\ninside\nend\nelse\ninside\nend")
        self.bad("rest\nelse", 2)
        self.bad("rest\ninside\nelse", 3)
        self.bad("rest\nif a is 0\nelse\nelse\nend", 4)
        self.bad("rest\nif a is 0\nelse\ninside\nelse\nend", 5)
        self.bad("rest\nif a is 0\nend\nelse\nend", 4)
        for word in ("lower", "higher", "others", "loop\ninside"):
            many = 4 + word.count("\n")
            self.bad(f"rest\nif a is 0\n{word}\nelse\nend\nend", many)
            self.bad(f"rest\nif a is 0\nelse\n{word}\nelse\nend\nend", many + 1)
            self.good(f"rest\nif a is 0\n{word}\nend\nelse\nend")
        self.bad("rest\nif a is 0\nelse\nif a is 0\nelse\nend\nelse\nend", 7)

    def test_end(self):
        self.bad("rest\nend", 2)
        self.bad("rest\ninside\nend", 3)
        self.bad("rest\nif a is 0\nend\nend", 4)
        self.bad("rest\nif a is 0\nelse\nend\nend", 5)
        for word in ("lower", "higher", "others"):
            self.good(f"rest\ninside\n{word}\nend")
            self.bad(f"rest\ninside\n{word}\nend\nend", 5)
        # An `end` that is lacking is found behind all lines.
        self.bad("rest\nif a is 0", 3)
        self.bad("rest\nif a is 0\nelse", 4)
        self.bad("rest\ninside\nothers\nloop\ninside\nend", 7)
        self.bad("rest\ninside\nlower", 4)
        self.bad("rest\ninside\nloop\ninside", 5)

    def test_out(self):
        self.bad("rest\ninside\nout", 3)
        self.bad("rest\nif a is 0\nout\nend", 3)
        self.bad("rest\ninside\nothers\nout\nend", 4)
        self.bad("rest\ninside\nloop\ninside\nend\nout", 6)
        self.good("rest\ninside\nloop\ninside\nout\nend")
        self.good("rest\ninside\nloop\nif a is 0\nelse\nothers\nif a is it\nout\nend\nout\nend\nend\nend")

    def test_again(self):
        self.bad("rest\nagain", 2)
        self.bad("rest\ninside\nloop\nagain\nend", 4)
        self.good("rest\ninside\nagain\nagain\nothers\nagain\nend\nif a is 0\nagain\nelse\nagain\nend\nagain")

    def test_whatever_follows(self):
        self.bad("rest\nno\nno", 2)
        self.bad("rest\ninside\nelse\nif", 3)
        self.bad("rest\nif a is 0\nif a is it\nend", 3)
        self.bad("rest\n\n\n", 2)
        self.bad(LOOKING + "\n", 6)
        self.bad("rest\ninside\n\ninside", 3)

    def test_nested_deep(self):
        for word in ("others", "if a is 0", "if a.me is me", "lower"):
            lines = ["rest", "inside"] + [word] * 10
            self.good("\n".join(lines + ["end"] * 10))
            self.bad("\n".join(lines + ["end"] * 9), 22)
            self.bad("\n".join(lines + ["end"] * 11), 23)
        lines = ["rest", "inside"] + ["loop", "inside"] * 10
        self.good("\n".join(lines + ["out", "end"] * 10))

    def test_against_the_grammar(self):
        draw = random.Random(19)
        told = {False: 0, True: 0}
        others = ["", "rest", "inside", "put a 1", "put a.it it", "wait a is 0", "if a is 0", "if a.it not it", "else",
                  "end", "loop", "out", "again", "lower", "higher", "others", "no", "put a.me me", "end "]
        for _ in range(400):
            lines = drawn_script(draw).split("\n")
            for _ in range(draw.randrange(3)):
                at = draw.randrange(len(lines))
                deed = draw.randrange(3)
                lines[at:at + (deed < 2)] = [] if deed == 0 and len(lines) > 1 else [draw.choice(others)]
            text = "\n".join(lines)
            line = first_wrong(text)
            told[line is None] += 1
            if line is None:
                self.good(text)
            else:
                self.bad(text, line)
        self.assertGreater(min(told.values()), 50, told)

    def test_all_first_lines_of_a_script(self):
        draw = random.Random(18)
        for _ in range(40):
            lines = drawn_script(draw).split("\n")
            for many in range(len(lines) + 1):
                text = "\n".join(lines[:many])
                # Whatever may still follow, no line of these is wrong, but some may be lacking.
                line = first_wrong(text)
                self.assertIn(line, (None, max(many, 0) + 1 if many else 1))
                if line is None:
                    self.good(text)
                else:
                    self.bad(text, line)


class ProgramTest(ScriptTest):
    def test_rows(self):
        self.assertEqual(self.rows("rest\ninside"), [("rest", 1), ("inside", 0)])
        self.assertEqual(self.rows("rest\nput a 7\nput b.me me\ninside\nput c next", 1, 3), [
            ("rest", 1), ("write", "a", 7, 2), ("write", "bb", 1, 3), ("inside", 4), ("write", "c", 2, 0)])

    def test_wait(self):
        self.assertEqual(self.rows("rest\nwait a is 3\nwait b not 0\ninside\nwait a.me not me"), [
            ("rest", 1), ("read", "a", {3: 2}, 1), ("read", "b", {0: 2}, 3), ("inside", 4), ("read", "aa", {0: 4}, 0)])

    def test_if(self):
        self.assertEqual(self.rows("rest\nif a is 1\nput b 1\nend\ninside"), [
            ("rest", 1), ("read", "a", {1: 2}, 3), ("write", "b", 1, 3), ("inside", 0)])
        self.assertEqual(self.rows("rest\nif a not 1\nput b 1\nend\ninside"), [
            ("rest", 1), ("read", "a", {1: 3}, 2), ("write", "b", 1, 3), ("inside", 0)])
        self.assertEqual(self.rows("rest\nif a is 1\nput b 1\nelse\nput b 2\nput b 3\nend\ninside"), [
            ("rest", 1), ("read", "a", {1: 2}, 3), ("write", "b", 1, 5), ("write", "b", 2, 4), ("write", "b", 3, 5),
            ("inside", 0)])
        self.assertEqual(self.rows("rest\nif a not 1\nput b 1\nelse\nput b 2\nend\ninside"), [
            ("rest", 1), ("read", "a", {1: 3}, 2), ("write", "b", 1, 4), ("write", "b", 2, 4), ("inside", 0)])

    def test_empty_blocks(self):
        for word in ("is", "not"):
            for text in (f"if a {word} 1\nend", f"if a {word} 1\nelse\nend"):
                self.assertEqual(self.rows(f"rest\n{text}\ninside"), [("rest", 1), ("read", "a", {1: 2}, 2), ("inside", 0)])
                self.assertEqual(self.rows(f"rest\ninside\n{text}"), [("rest", 1), ("inside", 2), ("read", "a", {1: 0}, 0)])
        self.assertEqual(self.rows("rest\nif a is 1\nelse\nput b 2\nend\ninside"), [
            ("rest", 1), ("read", "a", {1: 3}, 2), ("write", "b", 2, 3), ("inside", 0)])
        self.assertEqual(self.rows("rest\nif a is 1\nput b 2\nelse\nend\ninside"), [
            ("rest", 1), ("read", "a", {1: 2}, 3), ("write", "b", 2, 3), ("inside", 0)])

    def test_loops(self):
        self.assertEqual(self.rows("rest\nput b 0\nloop\nput a 1\nif a is 2\nout\nend\nput a 2\nend\ninside"), [
            ("rest", 1), ("write", "b", 0, 2), ("write", "a", 1, 3), ("read", "a", {2: 5}, 4), ("write", "a", 2, 2),
            ("inside", 0)])
        # The innermost loop is left; at the end of the outer one it goes on behind that one.
        self.assertEqual(self.rows("rest\nput b 0\nloop\nput c 0\nloop\nif a is 2\nout\nelse\nput d 1\nend\nend\n"
                                   "if a is 3\nout\nend\nend\ninside"), [
            ("rest", 1), ("write", "b", 0, 2), ("write", "c", 0, 3), ("read", "a", {2: 5}, 4), ("write", "d", 1, 3),
            ("read", "a", {3: 6}, 2), ("inside", 0)])
        # A loop at the very end, left to row 0; one that is not left.
        self.assertEqual(self.rows("rest\ninside\nloop\nput a 1\nout\nend"), [("rest", 1), ("inside", 2), ("write", "a", 1, 0)])
        self.assertEqual(self.rows("rest\ninside\nloop\nput a 1\nend"), [("rest", 1), ("inside", 2), ("write", "a", 1, 2)])

    def test_again(self):
        self.assertEqual(self.rows("rest\nput a 1\nif b is 0\nagain\nend\ninside"), [
            ("rest", 1), ("write", "a", 1, 2), ("read", "b", {0: 1}, 3), ("inside", 0)])
        self.assertEqual(self.rows("rest\nif b is 0\nagain\nelse\ninside\nend"), [
            ("rest", 1), ("read", "b", {0: 1}, 2), ("inside", 0)])

    def test_lines_that_nobody_comes_to(self):
        self.assertEqual(self.rows("rest\nput a 0\nloop\nwait a is 0\nout\nput b 1\nend\ninside"), [
            ("rest", 1), ("write", "a", 0, 2), ("read", "a", {0: 4}, 2), ("write", "b", 1, 2), ("inside", 0)])
        self.assertEqual(self.rows("rest\nif a is 0\ninside\nelse\nagain\nput c 3\nend"), [
            ("rest", 1), ("read", "a", {0: 2}, 1), ("inside", 0), ("write", "c", 3, 0)])

    def test_lower_higher_and_others(self):
        text = "rest\ninside\n{}\nput a.it it\nend"
        for word, threads in (("lower", ([], [0], [0, 1], [0, 1, 2], [0, 1, 2, 3])),
                              ("higher", ([1, 2, 3, 4], [2, 3, 4], [3, 4], [4], [])),
                              ("others", ([1, 2, 3, 4], [0, 2, 3, 4], [0, 1, 3, 4], [0, 1, 2, 4], [0, 1, 2, 3]))):
            for me in range(5):
                rows = self.rows(text.format(word), me, 5)
                self.assertEqual([row[1:3] for row in rows[2:]], [("a" + LETTERS[it], it) for it in threads[me]])
            self.assertEqual(len(self.rows(text.format(word), 0, 1)), 2)

    def test_it_is_the_thread_of_the_innermost_block(self):
        rows = self.rows("rest\ninside\nothers\nput a.it it\nlower\nput b.it it\nend\nput c.it it\nend", 2, 4)
        self.assertEqual([(row[1], row[2]) for row in rows[2:]], [
            (name + LETTERS[it], it) for other in (0, 1, 3)
            for name, it in (("a", other), ("b", 0), ("b", 1), ("c", other))])
        # `lower` is lower than the thread itself, not than `it`.
        rows = self.rows("rest\ninside\nhigher\nlower\nput b.it me\nend\nend", 1, 3)
        self.assertEqual([row[1:3] for row in rows[2:]], [("ba", 1)])

    def test_loops_within_others_are_left_one_by_one(self):
        self.assertEqual(self.rows("rest\nput a 0\nothers\nloop\nif a is it\nout\nend\nend\nend\ninside", 1, 3), [
            ("rest", 1), ("write", "a", 0, 2), ("read", "a", {0: 3}, 2), ("read", "a", {2: 4}, 3), ("inside", 0)])
        self.assertEqual(self.rows("rest\nput a 0\nloop\nput b 1\nothers\nif a is it\nout\nend\nend\nend\ninside", 1, 3), [
            ("rest", 1), ("write", "a", 0, 2), ("write", "b", 1, 3), ("read", "a", {0: 5}, 4), ("read", "a", {2: 5}, 2),
            ("inside", 0)])
        # A loop within which nothing else is left, and a block of which nothing at all is.
        self.assertEqual(self.rows("rest\nput a 0\nloop\nput b 1\nlower\nout\nend\nend\ninside", 0, 2), [
            ("rest", 1), ("write", "a", 0, 2), ("write", "b", 1, 2), ("inside", 0)])

    def test_words_for_numbers(self):
        for threads in range(1, 6):
            for me in range(threads):
                rows = self.rows("rest\nput a.me me\nput b next\ninside\nput c.0 3\nput c.4 4\nput it.me 10", me, threads)
                self.assertEqual([row[1:3] for row in rows if row[0] == "write"], [
                    ("a" + LETTERS[me], me), ("b", (me + 1) % threads), ("ca", 3), ("ce", 4), ("it" + LETTERS[me], 10)])

    def test_cells_of_threads_that_are_not_there(self):
        field = Script("rest\nput a.4 1\nput a.me 1\ninside").field_of(2)
        self.assertEqual(field.cells, ("aa", "ab", "ae"))
        # A name may be that of a thread's cell.
        self.assertEqual(Script("rest\nput a.me 1\nput ab 1\ninside").field_of(2).cells, ("aa", "ab"))

    def test_parameters_by_their_names(self):
        script = Script(ONEBIT)
        self.assertEqual(script.program(threads=3, me=1), script.program(1, 3))
        self.assertEqual(script.field_of(threads=3), script.field_of(3))
        self.assertIsInstance(script.program(1, 3), Program)
        self.assertIsInstance(script.field_of(3), Field)

    def test_against_the_tests_own_way(self):
        draw = random.Random(20)
        told = {"program": 0, BadProgram: 0}
        for seed in range(350):
            text = drawn_script(draw, 4 if seed < 250 else 6)
            threads = draw.randrange(1, 6)
            script = self.good(text)
            for me in range(threads):
                rows = slow_rows(text, me, threads)
                if len(rows) <= 60:
                    self.assertEqual(script.program(me, threads).rows(), rows, text)
                    told["program"] += 1
                elif len(rows) <= 600:
                    with self.assertRaises(BadProgram) as caught:
                        script.program(me, threads)
                    self.assertEqual(caught.exception.row, len(rows))
                    told[BadProgram] += 1
        self.assertGreater(min(told.values()), 10, told)

    def test_more_than_60_rows(self):
        for many in (57, 58, 59, 60, 100, 298):
            script = self.good("\n".join(["rest", "inside"] + ["put a 1"] * many))
            if many <= 58:
                self.assertEqual(len(script.program(0, 1)), many + 2)
                continue
            for call in (lambda: script.program(0, 1), lambda: script.field_of(2)):
                with self.assertRaises(BadProgram) as caught:
                    call()
                self.assertEqual(caught.exception.row, many + 2)
        # Only for some of the threads it is too long.
        script = self.good("\n".join(["rest", "inside", "lower"] + ["put a 1"] * 20 + ["end"]))
        self.assertEqual([len(script.program(me, 5)) for me in range(3)], [2, 22, 42])
        for me in (3, 4):
            with self.assertRaises(BadProgram) as caught:
                script.program(me, 5)
            self.assertEqual(caught.exception.row, 2 + 20 * me)
        with self.assertRaises(BadProgram) as caught:
            script.field_of(5)
        self.assertEqual(caught.exception.row, 62)
        self.assertEqual(len(script.field_of(3)), 3)

    def test_against_point_4(self):
        for text in ("rest\nput a 1", "rest\ninside\ninside", "rest\ninside\nagain", "rest\nif a is 0\ninside\nend",
                     "rest\ninside\nif a is 0\nagain\nend", "rest\ninside\nothers\ninside\nend"):
            script = self.good(text)
            for call in (lambda: script.program(1, 2), lambda: script.field_of(2)):
                with self.assertRaises(NotOnce) as caught:
                    call()
                self.assertEqual(caught.exception.row, 0)
        # One thread alone has no other one, behind which it would be inside once more.
        self.assertEqual(len(Script("rest\ninside\nothers\ninside\nend").field_of(1)), 1)

    def test_bad_counts_and_threads(self):
        for text in (LOOKING, "rest\nput a 1"):
            script = Script(text)
            for count in NOT_COUNTS:
                for me in (0, 7, None, True, -1):
                    with self.assertRaises(BadCount) as caught:
                        script.program(me, count)
                    self.assertIs(caught.exception.count, count)
                with self.assertRaises(BadCount) as caught:
                    script.field_of(count)
                self.assertIs(caught.exception.count, count)
            for me in NOT_THREADS:
                for threads in (1, 2, 3):
                    with self.assertRaises(BadThread) as caught:
                        script.program(me, threads)
                    self.assertIs(caught.exception.thread, me)
        script = Script(LOOKING)
        for threads in range(1, 6):
            self.assertEqual(script.program(threads - 1, threads), script.program(0, 1))
            with self.assertRaises(BadThread) as caught:
                script.program(threads, threads)
            self.assertEqual(caught.exception.thread, threads)


class FieldOfTest(ScriptTest):
    def test_known_fields(self):
        for text, make in BY_THREADS.items():
            script = self.good(text)
            for threads in range(1, 6):
                field = script.field_of(threads)
                programs = [program.renamed(NAMES) for program in field.programs]
                self.assertEqual(Field([NAMES.get(cell, cell) for cell in field.cells], programs), make(threads), text)
                for me in range(threads):
                    self.assertEqual(script.program(me, threads), field.programs[me])
                    self.rows(text, me, threads)
        for text, make in ((PETERSON, known.peterson), (DEKKER, known.dekker)):
            field = self.good(text).field_of(2)
            programs = [program.renamed(NAMES) for program in field.programs]
            self.assertEqual(Field([NAMES.get(cell, cell) for cell in field.cells], programs), make())

    def test_just_the_cells_that_are_read_or_written(self):
        self.assertEqual(Script("rest\ninside").field_of(3).cells, ())
        self.assertEqual(Script("rest\nput z 1\nwait b.me is 0\ninside").field_of(3).cells, ("ba", "bb", "bc", "z"))
        # Also those of rows that nobody meets.
        self.assertEqual(Script("rest\nwait b is 0\nagain\nput q 1").field_of(1).cells, ("b", "q"))
        self.assertEqual(Script("rest\ninside\nlower\nput l 1\nend").field_of(1).cells, ())
        self.assertEqual(Script("rest\ninside\nlower\nput l 1\nend").field_of(2).cells, ("l",))

    def test_too_many_cells(self):
        script = Script("rest\nput a.me 1\nput b 1\ninside")
        self.assertEqual(len(script.field_of(4).cells), 5)
        with self.assertRaises(BadField) as caught:
            script.field_of(5)
        self.assertEqual(caught.exception.place, "cells")
        script = Script("rest\n" + "\n".join(f"put {name} 1" for name in "abcdef") + "\ninside")
        for threads in range(1, 6):
            with self.assertRaises(BadField) as caught:
                script.field_of(threads)
            self.assertEqual(caught.exception.place, "cells")
        # What Program raises comes ahead of it.
        script = Script("rest\n" + "\n".join(f"put {name} 1" for name in "abcdef") + "\nlower\ninside\nend")
        with self.assertRaises(NotOnce):
            script.field_of(2)

    def test_the_first_thread_that_is_refused(self):
        # Thread 0 has no row too many, thread 1 has, and thread 2 has even more.
        script = Script("\n".join(["rest", "inside"] + ["lower", *["put a it"] * 59, "end"]))
        for threads in (2, 3, 5):
            with self.assertRaises(BadProgram) as caught:
                script.field_of(threads)
            self.assertEqual(caught.exception.row, 61)

    def test_equal_and_new(self):
        script = Script(PETERSON)
        self.assertEqual(script.field_of(2), Script(PETERSON).field_of(2))
        script.program(0, 2).rows().clear()
        script.program(1, 2)
        self.assertEqual((script.text(), script.field_of(2)), (PETERSON, Script(PETERSON).field_of(2)))

    def test_300_lines_written_out(self):
        lines = ["rest", "inside"] + ["others", "others", "others"] + ["if a is it", "end"] * 2 + ["end"] * 3
        for threads in (2, 4, 5):
            script = self.good("\n".join(lines))
            for me in range(threads):
                rows = slow_rows("\n".join(lines), me, threads)
                if len(rows) > 60:
                    with self.assertRaises(BadProgram) as caught:
                        script.program(me, threads)
                    self.assertEqual(caught.exception.row, len(rows))
                else:
                    self.assertEqual(script.program(me, threads).rows(), rows)

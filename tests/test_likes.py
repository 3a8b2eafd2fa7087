"""Promises 21 and 22: programs that do the same, and the least of them."""

import itertools
import random
import unittest

from coveredcells.fields import Field
from coveredcells.likes import are_alike, least, least_field, parting
from coveredcells.programs import Program
from tests.locks import Walker, changed, dekker, drawn, drawn_rows, known, merged, onebit, peterson

STRAIGHT = [("rest", 1), ("inside", 0)]


def step_of(row):
    return row[:-1] if row[0] != "read" else row[:2]


def goal_of(row, worth):
    return row[2].get(worth, row[3]) if row[0] == "read" else row[-1]


def worths_of(*lists):
    """Return all worths that cases of some rows have, and one that none has."""
    worths = {worth for rows in lists for row in rows if row[0] == "read" for worth in row[2]}
    return sorted(worths | {max(worths, default=-1) + 1})


def apart(rows):
    """Return the set of the pairs of rows from which different steps are done, by going over all pairs."""
    worths = worths_of(rows)
    everyone = range(len(rows))
    found = {(a, b) for a in everyone for b in everyone if step_of(rows[a]) != step_of(rows[b])}
    while True:
        more = {(a, b) for a in everyone for b in everyone if (a, b) not in found and any(
            (goal_of(rows[a], worth), goal_of(rows[b], worth)) in found
            for worth in (worths if rows[a][0] == "read" else worths[:1]))}
        if not more:
            return found
        found |= more


def shifted(row, by):
    """Return a row whose numbers of rows are greater by a number."""
    if row[0] == "read":
        return "read", row[1], {worth: number + by for worth, number in row[2].items()}, row[3] + by
    return row[:-1] + (row[-1] + by,)


def slow_alike(one, other):
    rows = one.rows() + [shifted(row, len(one)) for row in other.rows()]
    return (0, len(one)) not in apart(rows)


def steps(rows, answers, most):
    """Return the steps that are done up to the last answer, and those behind it, but at most so many in all."""
    done, number, left = [[]], 0, list(answers)
    while sum(len(part) for part in done) < most:
        row = rows[number]
        done[-1].append(step_of(row))
        if row[0] != "read":
            number = row[-1]
        elif left:
            number = goal_of(row, left.pop(0))
            done.append([])
        else:
            break
    return done, left


def parted(one, other, answers):
    """Tell whether two programs are parted by answers, by the words of the document."""
    most = len(one) * len(other) + len(answers) * 60 + 60
    (first, left), (second, more) = steps(one.rows(), answers, most), steps(other.rows(), answers, most)
    return not left and not more and first[:-1] == second[:-1] and first[-1] != second[-1]


def slow_parting(one, other, most):
    """Return how many answers part two programs, trying all lists of answers of up to so many; None if none does."""
    worths = worths_of(one.rows(), other.rows())
    for many in range(most + 1):
        if any(parted(one, other, answers) for answers in itertools.product(worths, repeat=many)):
            return many
    return None


def moved(draw, rows):
    """Return the same rows in another order, but for row 0."""
    order = [0, *draw.sample(range(1, len(rows)), len(rows) - 1)]
    return [goals_changed(rows[number], order.index) for number in order]


def goals_changed(row, change):
    """Return a row with other numbers of rows, by a function."""
    if row[0] == "read":
        return "read", row[1], {worth: change(number) for worth, number in row[2].items()}, change(row[3])
    return row[:-1] + (change(row[-1]),)


def doubled(draw, rows):
    """Return rows with some of them doubled; who came to one of these comes to either, and some that nobody meets."""
    twins = {number: [number] for number in range(len(rows))}
    for number in draw.choices(range(len(rows)), k=5):
        twins[number].append(len(rows))
        rows = rows + [rows[number]]
    rows = [goals_changed(row, lambda number: draw.choice(twins[number])) for row in rows]
    for at, row in enumerate(rows):
        if row[0] == "read" and draw.random() < 0.5:
            # A case that leads where `other` leads.
            rows[at] = row[:2] + ({**row[2], **{worth: row[3] for worth in (50, 7) if worth not in row[2]}}, row[3])
    return rows


def some_programs():
    """Return known, changed, merged and drawn programs."""
    fields = [*known(4).values(), *merged(3).values()]
    for make in (peterson, dekker, lambda: onebit(2), lambda: onebit(3)):
        fields += [changed(make(), seed) for seed in range(8)]
    draw = random.Random(22)
    fields += [drawn(seed, 2, draw.randrange(3), draw.choice([4, 6, 8, 12])) for seed in range(60)]
    programs = []
    for field in fields:
        for program in field.programs:
            if program not in programs:
                programs.append(program)
    return programs


SOME = some_programs()


class LeastTest(unittest.TestCase):
    def is_least(self, program):
        """Check the least program of one by the words of point 22."""
        found = least(program)
        self.assertIsInstance(found, Program)
        rows = found.rows()
        self.assertTrue(slow_alike(program, found), program.text())
        # No two rows are one, so that no program with fewer rows does the same.
        told = apart(rows)
        for a, b in itertools.combinations(range(len(rows)), 2):
            self.assertIn((a, b), told, program.text())
        met = [0]
        for number in met:
            row = rows[number]
            goals = [row[2][worth] for worth in sorted(row[2])] + [row[3]] if row[0] == "read" else [row[-1]]
            met += [goal for at, goal in enumerate(goals) if goal not in met and goal not in goals[:at]]
            self.assertNotIn(goals[-1], goals[:-1], program.text())
        self.assertEqual(met, list(range(len(rows))), program.text())
        return found

    def test_some(self):
        for program in SOME:
            found = self.is_least(program)
            self.assertEqual(least(found), found)

    def test_rows_in_the_order_in_which_they_are_met(self):
        self.assertEqual(least(onebit(2).programs[1]).text().split("\n"), [
            "rest 1", "write b 1 2", "read a 0>3 4", "inside 5", "write b 0 6", "write b 0 0", "read a 0>1 6"])
        rows = [("rest", 4), ("write", "a", 3, 3), ("write", "a", 2, 3), ("inside", 0),
                ("read", "a", {11: 1, 9: 2, 10: 3}, 5), ("write", "a", 1, 3)]
        self.assertEqual(self.is_least(Program(rows)).text().split("\n"), [
            "rest 1", "read a 9>2 10>3 11>4 5", "write a 2 3", "inside 0", "write a 3 3", "write a 1 3"])

    def test_rows_that_nobody_meets(self):
        rows = [("rest", 1), ("inside", 0), ("rest", 1), ("write", "z", 5, 0), ("read", "y", {0: 1}, 3)]
        self.assertEqual(self.is_least(Program(rows)), Program(STRAIGHT))
        # Met in one order only by way of rows that nobody meets.
        rows = [("rest", 3), ("inside", 0), ("write", "a", 0, 1), ("inside", 0)]
        self.assertEqual(self.is_least(Program(rows)), Program(STRAIGHT))

    def test_doubled_rows(self):
        rows = [("rest", 1), ("inside", 2), ("rest", 3), ("inside", 4), ("rest", 1)]
        self.assertEqual(self.is_least(Program(rows)), Program(STRAIGHT))
        rows = [("rest", 1), ("write", "a", 1, 2), ("inside", 3), ("rest", 4), ("write", "a", 1, 5), ("inside", 0)]
        self.assertEqual(len(self.is_least(Program(rows))), 3)
        rows[4] = ("write", "a", 2, 5)
        self.assertEqual(len(self.is_least(Program(rows))), 6)

    def test_cases_that_lead_where_other_leads(self):
        rows = [("rest", 1), ("read", "a", {0: 2, 1: 3, 2: 2, 3: 1}, 2), ("inside", 0), ("inside", 0)]
        self.assertEqual(self.is_least(Program(rows)).rows(), [
            ("rest", 1), ("read", "a", {3: 1}, 2), ("inside", 0)])
        # Also if they lead there only by way of rows that do the same; the read itself stays.
        rows = [("rest", 1), ("read", "a", {0: 2}, 3), ("inside", 0), ("inside", 4), ("rest", 1)]
        self.assertEqual(self.is_least(Program(rows)).rows(), [("rest", 1), ("read", "a", {}, 2), ("inside", 0)])

    def test_rings_that_do_the_same(self):
        # Round by two rows and round by three rows: the same writes for ever.
        rows = [("rest", 1), ("read", "a", {0: 2, 1: 4, 2: 7}, 7), ("write", "a", 0, 3), ("write", "a", 0, 2),
                ("write", "a", 0, 5), ("write", "a", 0, 6), ("write", "a", 0, 4), ("inside", 0)]
        self.assertEqual(self.is_least(Program(rows)).rows(), [
            ("rest", 1), ("read", "a", {0: 2, 1: 2}, 3), ("write", "a", 0, 2), ("inside", 0)])

    def test_told_apart_only_far_behind(self):
        # Two chains of the same writes, of which the last rows are not the same.
        rows = [("rest", 1), ("read", "a", {0: 2}, 30)]
        rows += [("write", "a", 0, at + 1) for at in range(2, 29)] + [("write", "a", 1, 58)]
        rows += [("write", "a", 0, at + 1) for at in range(30, 57)] + [("write", "a", 2, 58), ("inside", 0)]
        self.assertEqual(len(self.is_least(Program(rows))), len(rows))
        rows[57] = ("write", "a", 1, 58)
        self.assertEqual(len(self.is_least(Program(rows))), 31)

    def test_huge_worths(self):
        huge = 10 ** 6000
        rows = [("rest", 1), ("write", "a", huge, 2), ("read", "a", {huge: 3, huge + 1: 4}, 4), ("inside", 0), ("inside", 0)]
        self.assertEqual(least(Program(rows)).rows(), [
            ("rest", 1), ("write", "a", huge, 2), ("read", "a", {}, 3), ("inside", 0)])
        rows[4] = ("write", "a", 1, 3)
        one, other = Program(rows), Program(rows[:2] + [("read", "a", {huge: 3}, 3), *rows[3:]])
        found = parting(one, other)
        self.assertTrue(len(found) == 1 and found[0] != huge and parted(one, other, found))

    def test_moved_and_doubled_rows(self):
        draw = random.Random(21)
        for program in SOME:
            rows = program.rows()
            if len(rows) <= 30:
                for other in (moved(draw, rows), doubled(draw, rows), moved(draw, doubled(draw, rows))):
                    other = Program(other)
                    self.assertEqual(least(other), least(program), other.text())
                    self.assertIs(are_alike(program, other), True)
                    self.assertIsNone(parting(other, program))

    def test_fields(self):
        for word, field in {**known(5), **merged(3)}.items():
            found = least_field(field)
            self.assertIsInstance(found, Field)
            self.assertEqual(found.cells, field.cells, word)
            self.assertEqual(found.programs, tuple(least(program) for program in field.programs), word)
        # The cells stay, also those that no row reads or writes any more.
        program = Program([("rest", 1), ("inside", 0), ("write", "b", 0, 0)])
        self.assertEqual(least_field(Field(["c", "b"], [program])), Field(["b", "c"], [Program(STRAIGHT)]))

    def test_each_run_leads_to_the_same(self):
        draw = random.Random(20)
        fields = [*known(5).values(), *[drawn(seed, 1 + seed % 5, seed % 6, 16) for seed in range(60)]]
        for field in fields:
            found = least_field(field)
            one, other = Walker(field), Walker(found)
            run = [draw.choice(one.threads) for _ in range(80)]
            for here, there in zip(one.states(run), other.states(run)):
                self.assertEqual(here[1], there[1])
                for word in ("rest", "inside"):
                    self.assertEqual(one.sort(here, word), other.sort(there, word))


class PartingTest(unittest.TestCase):
    def told(self, one, other):
        """Return what is told of two programs, which is held against the words of the document."""
        found = parting(one, other)
        self.assertIs(are_alike(one, other), found is None)
        self.assertIs(found is None, slow_alike(one, other), (one.text(), other.text()))
        if found is not None:
            self.assertIs(type(found), list)
            self.assertTrue(all(type(worth) is int and worth >= 0 for worth in found), found)
            self.assertTrue(parted(one, other, found), (one.text(), other.text(), found))
        return found

    def test_alike(self):
        for program in SOME:
            self.assertIsNone(self.told(program, program))
            self.assertIsNone(self.told(program, least(program)))
            self.assertIsNone(self.told(least(program), program))

    def test_no_answer_is_needed(self):
        one = Program(STRAIGHT)
        for rows in ([("rest", 1), ("write", "a", 0, 2), ("inside", 0)], [("rest", 1), ("read", "a", {}, 2), ("inside", 0)],
                     [("rest", 1), ("inside", 2), ("write", "a", 1, 0)]):
            self.assertEqual(self.told(one, Program(rows)), [])
            self.assertEqual(self.told(Program(rows), one), [])
        # The first read is of another cell; the first write is of another worth, or into another cell.
        for row, other in ((("read", "a", {}, 2), ("read", "b", {}, 2)), (("write", "a", 0, 2), ("write", "a", 1, 2)),
                           (("write", "a", 0, 2), ("write", "b", 0, 2))):
            rows = [("rest", 1), row, ("inside", 0)]
            self.assertEqual(self.told(Program(rows), Program([rows[0], other, rows[2]])), [])

    def test_an_answer_that_no_case_has(self):
        rows = [("rest", 1), ("read", "a", {0: 2, 1: 2, 3: 2}, 3), ("inside", 0), ("write", "a", 1, 2)]
        one, other = Program(rows), Program([rows[0], ("read", "a", {1: 2, 4: 2}, 2), *rows[2:]])
        found = self.told(one, other)
        self.assertEqual(len(found), 1)
        self.assertNotIn(found[0], (0, 1, 3))
        other = Program([rows[0], ("read", "a", {4: 3, 2: 3, 0: 2}, 2), *rows[2:]])
        found = self.told(one, other)
        self.assertEqual(len(found), 1)
        self.assertNotIn(found[0], (0, 1, 2, 3, 4))
        self.assertIsNone(self.told(Program(rows), Program([rows[0], ("read", "a", {3: 2, 0: 2, 1: 2, 9: 3}, 3), *rows[2:]])))

    def test_as_short_as_possible(self):
        # Two ways part them: by one answer behind many writes, by three answers soon.
        rows = [("rest", 1), ("read", "a", {0: 2, 1: 8}, 8)]
        rows += [("write", "a", 0, at + 1) for at in range(2, 6)] + [("write", "a", 0, 13), ("inside", 0)]
        rows += [("read", "a", {}, 9), ("read", "a", {}, 10), ("write", "b", 0, 13), ("inside", 0), ("inside", 0),
                 ("inside", 0)]
        other = list(rows)
        other[6], other[10] = ("write", "a", 1, 13), ("write", "b", 1, 13)
        self.assertEqual(self.told(Program(rows), Program(other)), [0])
        other[6] = rows[6]
        self.assertEqual(len(self.told(Program(rows), Program(other))), 3)

    def test_round_about_without_a_read(self):
        two = [("rest", 1), ("write", "a", 0, 2), ("write", "a", 0, 1)]
        three = [("rest", 1), ("write", "a", 0, 2), ("write", "a", 0, 3), ("write", "a", 0, 1)]
        self.assertIsNone(self.told(Program(two), Program(three)))
        three[2] = ("write", "a", 1, 3)
        self.assertEqual(self.told(Program(two), Program(three)), [])
        two[2] = ("write", "a", 1, 1)
        self.assertEqual(self.told(Program(two), Program(three)), [])

    def test_round_about_behind_one_answer_and_parted_behind_another(self):
        rows = [("rest", 1), ("read", "a", {0: 2}, 3), ("write", "a", 0, 2), ("write", "b", 0, 4), ("inside", 0)]
        other = rows[:3] + [("write", "b", 1, 4), ("inside", 0)]
        self.assertEqual(self.told(Program(rows), Program(other)), [1])

    def test_long_answers(self):
        # One line of reads, each of which asks for another worth, and one write at the end that is not the same.
        for worth in (0, 1):
            rows = [("rest", 1)] + [("read", "a", {at: at + 1}, 1) for at in range(1, 57)]
            rows += [("write", "a", worth, 58), ("inside", 59), ("write", "a", 0, 0)]
            if worth == 0:
                one = Program(rows)
        self.assertEqual(parting(one, Program(rows)), list(range(1, 57)))
        self.assertIs(are_alike(one, Program(rows)), False)
        self.assertTrue(parted(one, Program(rows), list(range(1, 57))))

    def test_many_pairs_of_rows(self):
        # Rings of 55 and of 54 reads, which come together at all pairs of rows.
        rings = []
        for many in (55, 54):
            rows = [("rest", 1)] + [("read", "a", {1: many + 1}, at % many + 1) for at in range(1, many + 1)]
            rings.append(rows + [("inside", many + 2), ("write", "a", 3, 0)])
        self.assertIsNone(parting(Program(rings[0]), Program(rings[1])))
        for at in (1, 55):
            rows = list(rings[0])
            rows[at] = rows[at][:2] + ({1: 56, 2: 56}, rows[at][3])
            found = parting(Program(rows), Program(rings[1]))
            self.assertEqual(len(found), at)
            self.assertTrue(parted(Program(rows), Program(rings[1]), found))
            self.assertEqual(found[-1], 2)

    def test_against_a_slow_way(self):
        draw = random.Random(19)
        told = {}
        few = [program for program in SOME if len(program) <= 12]
        pairs = [(draw.choice(few), draw.choice(few)) for _ in range(150)]
        for program in few:
            rows = program.rows()
            for _ in range(3):
                # A row otherwise, or with other numbers of rows.
                at = draw.randrange(1, len(rows))
                goals = list(range(len(rows)))
                new = [("write", "a", 5, draw.choice(goals)), ("read", "a", {1: draw.choice(goals)}, draw.choice(goals)),
                       goals_changed(rows[at], lambda number: draw.choice([number, *goals]))]
                try:
                    pairs.append((program, Program(rows[:at] + [draw.choice(new)] + rows[at + 1:])))
                except ValueError:
                    pass
        for one, other in pairs:
            found = self.told(one, other)
            most = 5 if len(worths_of(one.rows(), other.rows())) <= 3 else 3
            many = slow_parting(one, other, most)
            if many is None:
                self.assertTrue(found is None or len(found) > most)
            else:
                self.assertEqual(len(found), many)
            told[many] = told.get(many, 0) + 1
        self.assertGreater(min(told.get(many, 0) for many in (None, 0, 1, 2, 3)), 3, told)

    def test_drawn_programs(self):
        draw = random.Random(17)
        for _ in range(40):
            rows = drawn_rows(draw, ["a"], 8)
            self.told(Program(rows), Program(drawn_rows(draw, ["a"], 8)))
            self.told(Program(rows), Program(doubled(draw, rows)))

    def test_nothing_changes(self):
        one, other = onebit(2).programs
        rows = one.rows()
        found = parting(one, other)
        found.append(7)
        self.assertEqual(parting(one, other), found[:-1])
        least(one)
        least_field(onebit(2))
        self.assertEqual((one.rows(), least(one)), (rows, least(Program(rows))))

    def test_names_of_parameters(self):
        field = onebit(2)
        one, other = field.programs
        self.assertEqual(least(program=one), least(one))
        self.assertEqual(least_field(field=field), least_field(field))
        self.assertEqual(parting(other=other, one=one), parting(one, other))
        self.assertIs(are_alike(other=one, one=one), True)

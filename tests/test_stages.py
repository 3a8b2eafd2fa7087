"""Promise 23: stages, whose deeds are undone and done again."""

import copy
import random
import unittest

from coveredcells.errors import BadRun, BadThread, NoDeed
from coveredcells.stages import Stage
from tests.locks import Walker, announcing, drawn, known, looking, onebit, peterson, straight

NOT_LISTS = (None, True, False, 0, -1, "", "01", b"", {}, {0: 1}, object(), 10 ** 5000, {0}, iter([0]), range(2))
NOT_THREADS = (
    True, False, None, -1, 2, 10 ** 5000, -10 ** 5000, "0", "", b"0", [0], (0,), [], {}, {0}, object(), 1.0, 0.0)


class StageTest(unittest.TestCase):
    def agrees(self, stage, field, run):
        """Check all that a stage tells of a field in which this run was done."""
        walker = Walker(field)
        state = walker.states(run)[-1]
        self.assertEqual(stage.state(), state)
        self.assertEqual([type(part) for part in (stage.state(), *stage.state())], [tuple] * 3)
        self.assertEqual(stage.run(), list(run))
        self.assertIs(type(stage.run()), list)
        self.assertEqual(stage.inside(), sorted(walker.sort(state, "inside")))
        self.assertEqual(stage.field, field)
        return state

    def no_deed(self, *calls):
        for call in calls:
            with self.assertRaises(NoDeed):
                call()

    def test_at_first(self):
        for word, field in known(5).items():
            stage = Stage(field)
            self.agrees(stage, field, [])
            self.no_deed(stage.undo, stage.again, stage.undo)
            self.agrees(stage, field, [])
        self.assertEqual(Stage(field=looking(2)).state(), ((0, 0), (0,)))

    def test_the_field(self):
        stage = Stage(peterson())
        self.assertEqual(stage.field, peterson())
        with self.assertRaises(AttributeError):
            stage.field = looking(2)
        self.assertEqual(stage.field, peterson())

    def test_steps(self):
        field = looking(2)
        stage = Stage(field)
        run = [0, 0, 1, 1, 0, 1]
        for many, thread in enumerate(run, start=1):
            state = stage.step(thread)
            self.assertEqual(state, self.agrees(stage, field, run[:many]))
        self.assertEqual(stage.inside(), [0, 1])
        self.assertEqual(stage.step(thread=1), ((3, 4), (1,)))
        for many in range(6, -1, -1):
            self.assertEqual(stage.undo(), self.agrees(stage, field, run[:many]))
        self.no_deed(stage.undo)
        for many in range(1, 7):
            self.assertEqual(stage.again(), self.agrees(stage, field, run[:many]))
        self.assertEqual(stage.again(), self.agrees(stage, field, run + [1]))
        self.no_deed(stage.again)
        self.agrees(stage, field, run + [1])

    def test_a_run_is_one_deed(self):
        field = announcing(3)
        stage = Stage(field)
        self.assertEqual(stage.do([0, 1, 2]), self.agrees(stage, field, [0, 1, 2]))
        stage.step(0)
        self.assertEqual(stage.do(run=(1, 2)), self.agrees(stage, field, [0, 1, 2, 0, 1, 2]))
        self.assertEqual(stage.undo(), self.agrees(stage, field, [0, 1, 2, 0]))
        self.assertEqual(stage.undo(), self.agrees(stage, field, [0, 1, 2]))
        self.assertEqual(stage.undo(), self.agrees(stage, field, []))
        self.no_deed(stage.undo)
        self.assertEqual(stage.again(), self.agrees(stage, field, [0, 1, 2]))
        self.assertEqual(stage.again(), self.agrees(stage, field, [0, 1, 2, 0]))
        self.assertEqual(stage.again(), self.agrees(stage, field, [0, 1, 2, 0, 1, 2]))
        self.no_deed(stage.again)

    def test_a_run_of_no_step_is_a_deed(self):
        field = looking(2)
        for none in ([], ()):
            stage = Stage(field)
            self.assertEqual(stage.do(none), self.agrees(stage, field, []))
            self.assertEqual(stage.undo(), self.agrees(stage, field, []))
            self.no_deed(stage.undo)
            self.assertEqual(stage.again(), self.agrees(stage, field, []))
            self.no_deed(stage.again)
            stage.step(1)
            stage.do(none)
            self.assertEqual(stage.undo(), self.agrees(stage, field, [1]))
            self.assertEqual(stage.undo(), self.agrees(stage, field, []))
            self.assertEqual(stage.undo(), self.agrees(stage, field, []))
            self.no_deed(stage.undo)
            for run in ([], [1], [1]):
                self.assertEqual(stage.again(), self.agrees(stage, field, run))
            self.no_deed(stage.again)

    def test_nothing_can_be_done_again_behind_a_deed(self):
        field = looking(2)
        for deed, run in ((lambda stage: stage.step(0), [1, 0]), (lambda stage: stage.do([0, 0]), [1, 0, 0]),
                          (lambda stage: stage.do([]), [1]), (lambda stage: stage.do(()), [1]),
                          (lambda stage: stage.step(1), [1, 1])):
            stage = Stage(field)
            stage.step(1)
            stage.step(1)
            stage.step(0)
            stage.undo()
            stage.undo()
            deed(stage)
            self.agrees(stage, field, run)
            self.no_deed(stage.again)
            self.agrees(stage, field, run)
            self.assertEqual(stage.undo(), self.agrees(stage, field, [1]))
            self.assertEqual(stage.again(), self.agrees(stage, field, run))
            self.no_deed(stage.again)

    def test_drawn_deeds(self):
        draw = random.Random(23)
        fields = list(known(5).values()) + [drawn(seed, 1 + seed % 5, seed % 6, 12) for seed in range(30)]
        for field in fields:
            stage, deeds, undone = Stage(field), [], []
            for _ in range(40):
                deed = draw.choice(["step", "do", "undo", "undo", "again", "again"])
                flat = [thread for run in deeds for thread in run]
                if deed in ("step", "do"):
                    run = draw.choices(range(len(field)), k=1 if deed == "step" else draw.randrange(5))
                    told = stage.step(run[0]) if deed == "step" else stage.do(run)
                    deeds.append(run)
                    undone = []
                elif deed == "undo" and deeds:
                    told = stage.undo()
                    undone.append(deeds.pop())
                elif deed == "again" and undone:
                    told = stage.again()
                    deeds.append(undone.pop())
                else:
                    self.no_deed(stage.undo if deed == "undo" else stage.again)
                    told = Walker(field).states(flat)[-1]
                self.assertEqual(told, self.agrees(stage, field, [thread for run in deeds for thread in run]))

    def test_bad_threads(self):
        for field in (looking(2), straight(2)):
            stage = Stage(field)
            stage.do([0, 1])
            stage.step(1)
            stage.undo()
            for thread in NOT_THREADS:
                with self.assertRaises(BadThread) as caught:
                    stage.step(thread)
                self.assertIs(caught.exception.thread, thread)
            self.agrees(stage, field, [0, 1])
            # A stage that refuses stays as it was: what was undone can still be done again.
            self.assertEqual(stage.again(), self.agrees(stage, field, [0, 1, 1]))
        for threads in range(1, 6):
            stage = Stage(straight(threads))
            stage.step(threads - 1)
            with self.assertRaises(BadThread) as caught:
                stage.step(threads)
            self.assertEqual(caught.exception.thread, threads)

    def test_bad_runs(self):
        field = looking(2)
        stage = Stage(field)
        stage.do([0, 1])
        stage.step(1)
        stage.undo()
        for wrong, index in ([(wrong, 0) for wrong in NOT_LISTS] + [([wrong], 0) for wrong in NOT_THREADS]
                             + [((0, 1, wrong, wrong), 2) for wrong in NOT_THREADS]):
            with self.assertRaises(BadRun) as caught:
                stage.do(wrong)
            self.assertEqual(caught.exception.index, index)
            self.assertIs(type(caught.exception.index), int)
        self.agrees(stage, field, [0, 1])
        self.assertEqual(stage.again(), self.agrees(stage, field, [0, 1, 1]))

    def test_what_is_passed_and_returned(self):
        field = onebit(2)
        stage = Stage(field)
        run = [0, 0, 1]
        kept = copy.deepcopy(run)
        stage.do(run)
        self.assertEqual(run, kept)
        run.append(0)
        self.agrees(stage, field, kept)
        stage.run().append(1)
        stage.run().clear()
        stage.inside().append(1)
        self.agrees(stage, field, kept)
        stage.undo()
        stage.again()
        self.agrees(stage, field, kept)

    def test_two_stages(self):
        field = onebit(2)
        one, other = Stage(field), Stage(field)
        one.step(0)
        other.do([1, 1])
        self.agrees(one, field, [0])
        self.agrees(other, field, [1, 1])
        one.undo()
        self.no_deed(other.again)

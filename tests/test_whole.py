"""What the document promises over the whole program: its examples, and what its parts tell of the same fields."""

import doctest
import importlib
import inspect
import os
import pathlib
import random
import subprocess
import sys
import unittest

from coveredcells import known
from coveredcells.covers import cover, foil
from coveredcells.fields import Field
from coveredcells.likes import are_alike, least_field
from coveredcells.papers import is_paper, paper
from coveredcells.runs import after, is_clash, is_cover, is_standstill
from coveredcells.scripts import Script
from coveredcells.search import clash, kept_out, reached, standstill
from coveredcells.stages import Stage
from coveredcells.waits import alone, passed_over
from coveredcells.watching import Watch, can_be
from tests import locks
from tests.locks import Walker, changed, drawn, merged
from tests.test_scripts import ANNOUNCING, DEKKER, LOOKING, ONEBIT, PETERSON, TURNING

ROOT = pathlib.Path(__file__).resolve().parent.parent

EXAMPLES = """
>>> from coveredcells.known import looking, onebit, peterson, turning
>>> [len(field) for field in (onebit(3), peterson())], peterson().cells, onebit(2).programs[0].text().split("\\n")
([3, 2], ('a', 'b', 'turn'), ['rest 1', 'write a 1 2', 'read b 0>3 2', 'inside 4', 'write a 0 0'])
>>> from coveredcells.runs import after, is_clash, is_cover, is_standstill
>>> [after(looking(2), [0, 0, 1, 1, 0]), is_clash(looking(2), [0, 0, 1, 1, 0, 1]), is_standstill(turning(2), [1], [1])]
[((3, 2), (1,)), True, True]
>>> from coveredcells.search import clash, kept_out, standstill
>>> [len(clash(looking(2))), clash(peterson()), standstill(peterson()), kept_out(peterson(), 1), kept_out(onebit(2), 1) is None]
[6, None, None, None, False]
>>> from coveredcells.covers import cover, foil
>>> word, run, twin = cover(onebit(3), 3)
>>> [word, is_cover(onebit(3), 3, run, twin), foil(looking(2))[0], foil(turning(2))[0]]
['cover', True, 'clash', 'standstill']
>>> from coveredcells.papers import is_paper, paper
>>> [is_paper(peterson(), paper(peterson())), paper(looking(2))]
[True, None]
"""

PARAMETERS = {
    "programs": {"Program": ["rows"], "Program.rows": [], "Program.used": [], "Program.renamed": ["names"],
                 "Program.text": [], "Program.parse": ["text"]},
    "fields": {"Field": ["cells", "programs"], "Field.start": [], "Field.step": ["state", "thread"],
               "Field.inside": ["state"], "Field.resting": ["state"], "Field.writing": ["state"],
               "Field.merged": ["kept", "gone"], "Field.text": [], "Field.parse": ["text"]},
    "runs": {"after": ["field", "run", "state"], "is_clash": ["field", "run"], "is_standstill": ["field", "run", "ring"],
             "is_cover": ["field", "count", "run", "twin"]},
    "covers": {"cover": ["field", "count"], "foil": ["field"]},
    "search": {"reached": ["field"], "clash": ["field"], "standstill": ["field"], "kept_out": ["field", "thread"]},
    "papers": {"paper": ["field"], "is_paper": ["field", "table"]},
    "waits": {"alone": ["field", "thread"], "passed_over": ["field", "thread", "steps"]},
    "watching": {"can_be": ["field", "seen"], "Watch": ["field"], "Watch.see": ["worths"], "Watch.seen": [],
                 "Watch.states": [], "Watch.surely": [], "Watch.perhaps": [], "Watch.undo": [], "Watch.again": []},
    "scripts": {"Script": ["text"], "Script.text": [], "Script.program": ["me", "threads"],
                "Script.field_of": ["threads"]},
    "likes": {"least": ["program"], "least_field": ["field"], "parting": ["one", "other"], "are_alike": ["one", "other"]},
    "stages": {"Stage": ["field"], "Stage.state": [], "Stage.run": [], "Stage.inside": [], "Stage.step": ["thread"],
               "Stage.do": ["run"], "Stage.undo": [], "Stage.again": []},
    "known": {"onebit": ["threads"], "peterson": [], "dekker": [], "turning": ["threads"], "looking": ["threads"],
              "announcing": ["threads"]},
    "errors": {"BadProgram": ["row"], "NotOnce": ["row"], "BadField": ["place"], "BadCell": ["name"], "BadRun": ["index"],
               "BadCount": ["count"], "BadThread": ["thread"], "Enough": ["number"], "BadSteps": ["steps"],
               "BadSeen": ["index"], "BadText": ["line"], "BadScript": ["line"], "NoDeed": []},
}

# Printed by programs of their own, which are to print the same whatever order their hashes have.
TOLD = """
from coveredcells.known import *
from coveredcells.covers import *
from coveredcells.likes import *
from coveredcells.papers import *
from coveredcells.scripts import *
from coveredcells.search import *
from coveredcells.watching import *
for field in (onebit(3), peterson(), dekker(), turning(3), looking(3), announcing(3)):
    print(reached(field), clash(field), standstill(field), [kept_out(field, thread) for thread in range(2)])
    print([cover(field, count) for count in range(3)], paper(field), least_field(field).text())
    print(parting(*field.programs[:2]), can_be(field, [field.start()[1]] * 4), field.writing(field.start()))
    print(Script("rest\\nput b.me 1\\nput a.0 1\\ninside").field_of(3).text(), field.merged(*field.cells[:2]).text()
          if len(field.cells) > 1 else foil(field))
"""


def the_known():
    """Return the known fields of the package, by what they are called."""
    fields = {"peterson": known.peterson(), "dekker": known.dekker()}
    for threads in range(1, 6):
        for make in (known.onebit, known.turning, known.looking, known.announcing):
            fields[f"{make.__name__} {threads}"] = make(threads)
    return fields


def searched():
    """Return fields that can be searched through."""
    fields = [field for field in the_known().values() if len(field) <= 3] + list(merged(2).values())
    for seed in range(40):
        fields.append(changed((known.peterson(), known.dekker(), known.onebit(2), known.announcing(3))[seed % 4], seed))
        fields.append(drawn(seed, 1 + seed % 3, seed % 4, 8))
    return fields


class ExamplesTest(unittest.TestCase):
    def test_examples(self):
        examples = doctest.DocTestParser().get_doctest(EXAMPLES, {}, "examples", None, 0)
        self.assertEqual(len(examples.examples), 11)
        self.assertEqual(doctest.DocTestRunner(verbose=False).run(examples).failed, 0)


class InterfaceTest(unittest.TestCase):
    def test_names_of_parameters(self):
        for name, called in PARAMETERS.items():
            module = importlib.import_module(f"coveredcells.{name}")
            for word, parameters in called.items():
                what = module
                for part in word.split("."):
                    self.assertIn(part, vars(what), word)
                    what = getattr(what, part)
                self.assertTrue(what.__module__ == module.__name__, word)
                kinds = [part for part in inspect.signature(what).parameters.values() if part.name != "self"]
                self.assertEqual([part.name for part in kinds], parameters, word)
                self.assertEqual({part.kind for part in kinds} - {inspect.Parameter.POSITIONAL_OR_KEYWORD}, set(), word)

    def test_properties(self):
        for where, what, names in (("fields", "Field", ["cells", "programs"]), ("watching", "Watch", ["field"]),
                                   ("stages", "Stage", ["field"])):
            made = getattr(importlib.import_module(f"coveredcells.{where}"), what)
            for name in names:
                self.assertIsInstance(vars(made)[name], property)

    def test_equal_values_whatever_the_hashes(self):
        told = set()
        for seed in ("0", "1", "2", "77"):
            made = subprocess.run([sys.executable, "-c", TOLD], cwd=ROOT, capture_output=True, text=True, check=True,
                                  env={**os.environ, "PYTHONHASHSEED": seed, "PYTHONDONTWRITEBYTECODE": "1"})
            told.add(made.stdout)
        self.assertEqual(len(told), 1)
        self.assertGreater(len(told.pop()), 1000)


class KnownTest(unittest.TestCase):
    def test_texts(self):
        for word, field in the_known().items():
            self.assertEqual(Field.parse(field.text()), field, word)

    def test_covers_and_foils(self):
        locks_of_all = [known.peterson(), known.dekker(), *[known.onebit(threads) for threads in range(2, 6)]]
        for field in locks_of_all:
            for count in range(len(field) + 1):
                word, run, twin = cover(field, count)
                self.assertEqual(word, "cover")
                self.assertTrue(is_cover(field, count, run, twin) and Walker(field).cover(count, run, twin))
        for threads in range(2, 6):
            for field, word in ((known.looking(threads), "clash"), (known.turning(threads), "standstill"),
                                (known.onebit(threads).merged("a", "b"), None),
                                (known.announcing(threads).merged("b", "a"), None)):
                found = foil(field)
                self.assertIn(found[0], ("clash", "standstill") if word is None else (word,))
                tell = is_clash if found[0] == "clash" else is_standstill
                self.assertIs(tell(field, *found[1:]), True)

    def test_what_is_safe_and_what_goes_on(self):
        for threads in range(1, 5):
            for field, is_safe, is_going in ((known.onebit(threads), True, True),
                                             (known.looking(threads), threads == 1, True),
                                             (known.turning(threads), True, threads == 1),
                                             (known.announcing(threads), True, threads == 1)):
                self.assertEqual((clash(field) is None, standstill(field) is None), (is_safe, is_going), field.text())
                table = paper(field)
                self.assertEqual(table is not None, is_safe and is_going)
                self.assertTrue(table is None or is_paper(field, table) and sorted(table) == reached(field))
        for field in (known.peterson(), known.dekker()):
            self.assertTrue(is_paper(field, paper(field)))
            self.assertEqual([kept_out(field, thread) for thread in (0, 1)], [None, None])
            self.assertIsNotNone(alone(field, 0))
        self.assertEqual([[passed_over(known.peterson(), thread, steps) for steps in (1, 2, 3)] for thread in (0, 1)],
                         [[None, 1, 1]] * 2)
        self.assertEqual([kept_out(known.onebit(3), thread) is None for thread in range(3)], [True, False, False])

    def test_scripts(self):
        for text in (ONEBIT, PETERSON, DEKKER, TURNING, LOOKING, ANNOUNCING):
            field = Script(text).field_of(2)
            self.assertEqual(Field.parse(field.text()), field)
            self.assertEqual(clash(field) is None, text != LOOKING)
            self.assertEqual(standstill(field) is None, text not in (TURNING, ANNOUNCING))
            self.assertEqual(paper(field) is None, text in (LOOKING, TURNING, ANNOUNCING))
            if paper(field) is not None:
                self.assertEqual([cover(field, count)[0] for count in range(3)], ["cover"] * 3)
        found = foil(Script(LOOKING).field_of(5))
        self.assertTrue(is_clash(known.looking(5), found[1]))


class SameFieldsTest(unittest.TestCase):
    def test_papers_and_searches(self):
        for field in searched():
            table = paper(field)
            self.assertEqual(table is None, clash(field) is not None or standstill(field) is not None)
            if table is not None:
                self.assertEqual(sorted(table), reached(field))
            for thread in range(len(field)):
                # Who alone never comes inside goes round for ever, with all others at rest.
                if alone(field, thread) is None:
                    self.assertIsNotNone(standstill(field))
                    self.assertIsNotNone(kept_out(field, thread))
                # Who goes round for ever, in a field that goes on, is passed over for ever.
                if kept_out(field, thread) is not None and standstill(field) is None:
                    self.assertIsNone(passed_over(field, thread, 1))

    def test_foils_and_searches(self):
        for field in searched():
            if len(field.cells) < len(field) and len(field) > 1:
                self.assertIsNone(paper(field))
            if paper(field) is not None and len(field) > 1:
                for count in range(len(field) + 1):
                    self.assertEqual(cover(field, count)[0], "cover")

    def test_least_fields_do_the_same(self):
        for field in searched():
            other = least_field(field)
            self.assertTrue(all(are_alike(*pair) for pair in zip(field.programs, other.programs)))
            run, twin = clash(field), clash(other)
            self.assertEqual(run is None or len(run), twin is None or len(twin))
            self.assertEqual(standstill(field) is None, standstill(other) is None)
            self.assertLessEqual(len(reached(other)), len(reached(field)))
            for thread in range(len(field)):
                self.assertEqual(kept_out(field, thread) is None, kept_out(other, thread) is None)
                self.assertEqual(alone(field, thread), alone(other, thread))
                for steps in (1, 3):
                    self.assertEqual(passed_over(field, thread, steps), passed_over(other, thread, steps))

    def test_stages_and_watches(self):
        draw = random.Random(23)
        fields = [*the_known().values(), *searched(), *[drawn(seed, 1 + seed % 5, seed % 6, 12) for seed in range(20)]]
        for field in fields:
            stage, watch = Stage(field), Watch(field)
            thread = 0
            for _ in range(20):
                # Some steps of one thread, so that not too many states can be.
                thread = draw.choice([thread, thread, draw.randrange(len(field))])
                deed = draw.choice(["step"] * 5 + ["undo", "undo and again"])
                if deed == "step" or not stage.run():
                    self.assertIs(watch.see(stage.step(thread)[1]), True)
                else:
                    stage.undo()
                    watch.undo()
                    if deed == "undo and again":
                        stage.again()
                        watch.again()
                self.assertIn(stage.state(), watch.states())
                self.assertEqual(stage.state(), after(field, stage.run()))
                self.assertLessEqual(set(watch.surely()), set(stage.inside()))
                self.assertLessEqual(set(stage.inside()), set(watch.perhaps()))
                self.assertEqual(watch.seen()[-1], stage.state()[1])
            self.assertEqual(watch.states(), can_be(field, watch.seen()))
            self.assertEqual((stage.field, watch.field), (field, field))

    def test_runs_that_are_found_are_done_on_stages(self):
        for field in searched():
            found = standstill(field)
            if found is not None:
                stage = Stage(field)
                stage.do(found[0])
                state = stage.state()
                self.assertEqual(stage.do(found[1]), state)
                stage.undo()
                self.assertEqual((stage.run(), stage.state()), (found[0], state))
            run = clash(field)
            if run is not None:
                stage = Stage(field)
                stage.do(run)
                self.assertGreater(len(stage.inside()), 1)

    def test_known_fields_are_those_of_the_tests(self):
        for threads in range(1, 6):
            for name in ("onebit", "turning", "looking", "announcing"):
                self.assertEqual(getattr(known, name)(threads), getattr(locks, name)(threads))

"""The rules of the language that can be seen from the code, and where the interface is defined."""

import ast
import builtins
import pathlib
import re
import unittest

PACKAGE = pathlib.Path(__file__).resolve().parent.parent / "coveredcells"
FILES = sorted(path for path in PACKAGE.rglob("*") if path.is_file() and "__pycache__" not in path.parts)
USED = set(
    "len range enumerate zip min max sum abs sorted reversed int str bool bytes list tuple dict set isinstance ord repr "
    "any all divmod map iter next ValueError".split())
METHODS = set(
    "append clear copy count endswith extend find get index insert isalnum isalpha isdigit islower isspace isupper items "
    "join keys ljust lower lstrip partition pop remove replace reverse rfind rjust rpartition rsplit rstrip setdefault "
    "split splitlines startswith strip update upper values zfill bit_length isascii removeprefix removesuffix add "
    "discard".split())
DOUBLE = set("__init__ __eq__ __repr__ __str__ __len__".split())
BARRED = set(
    "register mro elements open input law version_info with_traceback add_note typing enum Enum Generic Protocol ABC "
    "namedtuple NamedTuple TypedDict type chr eval exec compile globals locals getattr setattr vars dir id".split())
NOT_ALLOWED = (
    ast.Global, ast.AsyncFunctionDef, ast.Await, ast.AsyncFor, ast.AsyncWith, ast.Import, ast.Div, ast.AnnAssign)
OVER_LISTS = ("any", "all", "min", "max", "sum", "sorted")

INTERFACE = {
    "errors": {name: [] for name in (
        "CellError BadProgram NotOnce BadField BadCell BadRun BadCount BadThread Enough BadSteps BadSeen BadText "
        "BadScript NoDeed".split())},
    "programs": {"Program": "__init__ __eq__ __len__ rows used renamed text parse".split()},
    "fields": {"Field": "__init__ __eq__ __len__ cells programs start step inside resting writing merged text "
                        "parse".split()},
    "watching": {"Watch": "__init__ field see seen states surely perhaps undo again".split()},
    "scripts": {"Script": "__init__ __eq__ text program field_of".split()},
    "stages": {"Stage": "__init__ field state run inside step do undo again".split()},
}
FUNCTIONS = {
    "runs": {"after": ["field", "run", "state"], "is_clash": ["field", "run"],
             "is_standstill": ["field", "run", "ring"], "is_cover": ["field", "count", "run", "twin"]},
    "covers": {"cover": ["field", "count"], "foil": ["field"]},
    "search": {"reached": ["field"], "clash": ["field"], "standstill": ["field"], "kept_out": ["field", "thread"]},
    "papers": {"paper": ["field"], "is_paper": ["field", "table"]},
    "waits": {"alone": ["field", "thread"], "passed_over": ["field", "thread", "steps"]},
    "watching": {"can_be": ["field", "seen"]},
    "likes": {"least": ["program"], "least_field": ["field"], "parting": ["one", "other"], "are_alike": ["one", "other"]},
    "known": {"onebit": ["threads"], "peterson": [], "dekker": [], "turning": ["threads"], "looking": ["threads"],
              "announcing": ["threads"]},
}


def trees():
    """Return the names of the files and their syntax trees."""
    return [(path.name, ast.parse(path.read_text("ascii"))) for path in FILES]


def nodes(kind):
    """Return the names of the files and all nodes of a kind in them."""
    return [(name, node) for name, tree in trees() for node in ast.walk(tree) if isinstance(node, kind)]


class FilesTest(unittest.TestCase):
    def test_only_files_of_python_with_plain_names(self):
        for path in FILES:
            self.assertRegex(path.name, r"^(__init__|[a-z][a-z0-9_]*)\.py$")
        self.assertTrue((PACKAGE / "__init__.py").is_file())

    def test_characters_and_sizes(self):
        for path in FILES:
            text = path.read_bytes().decode("ascii")
            self.assertTrue(all(sign == "\n" or " " <= sign <= "~" for sign in text), path)
            lines = text.split("\n")
            self.assertLessEqual(len(lines), 400, path)
            self.assertLessEqual(max(len(line) for line in lines), 120, path)
        for name, node in nodes(ast.FunctionDef):
            self.assertLessEqual(node.end_lineno - node.lineno + 1, 40, (name, node.name))


class NamesTest(unittest.TestCase):
    def test_imports_name_the_file_that_defines_the_name(self):
        for name, node in nodes(ast.ImportFrom):
            self.assertRegex(node.module, r"^coveredcells\.[a-z_]+$", name)
            file = PACKAGE / (node.module.split(".")[1] + ".py")
            bound = [part.targets[0].id if isinstance(part, ast.Assign) else part.name
                     for part in ast.parse(file.read_text("ascii")).body
                     if isinstance(part, (ast.Assign, ast.FunctionDef, ast.ClassDef))]
            for part in node.names:
                self.assertIsNone(part.asname)
                self.assertIn(part.name, bound)

    def test_no_file_imports_itself_round_about(self):
        ahead = {name: [node.module.split(".")[1] + ".py" for node in ast.walk(tree) if isinstance(node, ast.ImportFrom)]
                 for name, tree in trees()}
        while ahead:
            free = [name for name in ahead if not any(other in ahead for other in ahead[name])]
            self.assertTrue(free, ahead)
            for name in free:
                del ahead[name]

    def test_builtins(self):
        # Examples that are run put a `_` among the builtins.
        known = set(dir(builtins)) - {"_"}
        for name, node in nodes(ast.Name):
            if isinstance(node.ctx, ast.Store):
                self.assertNotIn(node.id, known, name)
            else:
                self.assertTrue(node.id in USED or node.id not in known or node.id in ("property", "classmethod"),
                                (name, node.id))

    def test_names_that_are_bound(self):
        known = set(dir(builtins)) | BARRED
        for name, node in nodes((ast.FunctionDef, ast.ClassDef, ast.arg)):
            word = node.arg if isinstance(node, ast.arg) else node.name
            self.assertNotIn(word, known, name)
            self.assertTrue(word in DOUBLE or re.fullmatch(r"_?[A-Za-z][A-Za-z0-9_]*", word), (name, word))

    def test_barred_words(self):
        for name, node in nodes((ast.Name, ast.Attribute)):
            self.assertNotIn(node.id if isinstance(node, ast.Name) else node.attr, BARRED, name)

    def test_methods(self):
        own = {node.name for _, node in nodes(ast.FunctionDef)}
        for name, node in nodes(ast.Call):
            if isinstance(node.func, ast.Attribute):
                self.assertIn(node.func.attr, METHODS | own, name)

    def test_no_parameter_or_variable_has_the_name_of_an_import_or_a_class(self):
        for name, tree in trees():
            taken = {part.name for node in ast.walk(tree) if isinstance(node, ast.ImportFrom) for part in node.names}
            taken |= {node.name for node in tree.body if isinstance(node, ast.ClassDef)}
            for node in ast.walk(tree):
                if isinstance(node, ast.arg):
                    self.assertNotIn(node.arg, taken, name)
                if isinstance(node, ast.Name) and isinstance(node.ctx, ast.Store):
                    self.assertNotIn(node.id, taken, name)


class StatementsTest(unittest.TestCase):
    def test_statements_that_are_not_allowed(self):
        for name, node in nodes(NOT_ALLOWED):
            self.fail((name, node.lineno, node))

    def test_constants(self):
        for name, node in nodes(ast.Constant):
            self.assertNotIsInstance(node.value, float, name)
            if isinstance(node.value, str):
                self.assertNotIn("%", node.value, name)
                self.assertFalse(node.value.endswith(("._", ".__")), name)

    def test_lambdas_have_no_defaults(self):
        for name, node in nodes(ast.Lambda):
            self.assertEqual(node.args.defaults + node.args.kw_defaults, [], (name, node.lineno))

    def test_lists_instead_of_generator_expressions(self):
        for name, node in nodes(ast.Call):
            if isinstance(node.func, ast.Name) and node.func.id in OVER_LISTS:
                for part in node.args:
                    self.assertNotIsInstance(part, ast.GeneratorExp, (name, node.lineno))

    def test_is_only_beside_constants(self):
        for name, node in nodes(ast.Compare):
            for sign, part in zip(node.ops, node.comparators):
                if isinstance(sign, (ast.Is, ast.IsNot)):
                    self.assertIsInstance(part, ast.Constant, (name, node.lineno))

    def test_decorators_and_docstrings(self):
        for name, node in nodes((ast.FunctionDef, ast.ClassDef)):
            for part in node.decorator_list:
                self.assertIn(part.id, ("property", "classmethod"), name)
            if node.name not in DOUBLE:
                self.assertTrue(ast.get_docstring(node), (name, node.name))

    def test_module_level(self):
        for name, tree in trees():
            for node in tree.body:
                self.assertIsInstance(node, (ast.Expr, ast.ImportFrom, ast.FunctionDef, ast.ClassDef, ast.Assign), name)


class InterfaceTest(unittest.TestCase):
    def test_defined_in_its_file(self):
        for name, classes in INTERFACE.items():
            tree = ast.parse((PACKAGE / f"{name}.py").read_text("ascii"))
            found = {node.name: node for node in tree.body if isinstance(node, ast.ClassDef)}
            for word, methods in classes.items():
                own = {node.name for node in found[word].body if isinstance(node, ast.FunctionDef)}
                self.assertLessEqual(set(methods), own, word)

    def test_functions_have_their_parameters(self):
        for name, functions in FUNCTIONS.items():
            tree = ast.parse((PACKAGE / f"{name}.py").read_text("ascii"))
            found = {node.name: [part.arg for part in node.args.args] for node in tree.body
                     if isinstance(node, ast.FunctionDef)}
            for word, parameters in functions.items():
                self.assertEqual(found[word], parameters, word)

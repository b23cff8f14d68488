"""Looks at the files of the package: those rules of the language that can be seen without much ado."""

import ast
import builtins
import pathlib
import re
import unittest

ROOT = pathlib.Path(__file__).resolve().parent.parent
PACKAGE = ROOT / "askround"
FILES = sorted(path for path in PACKAGE.rglob("*") if path.is_file() and "__pycache__" not in path.parts)

STATEMENTS = (
    ast.Assign, ast.AugAssign, ast.If, ast.While, ast.For, ast.Return, ast.Break, ast.Continue, ast.Pass, ast.Raise, ast.Delete, ast.Try, ast.Expr,
    ast.FunctionDef, ast.ClassDef, ast.ImportFrom,
)
NO_EXPRESSIONS = (ast.GeneratorExp, ast.Yield, ast.YieldFrom, ast.Await, ast.NamedExpr, ast.Lambda)
BUILTINS = """len range enumerate zip min max sum abs sorted reversed int str bool list tuple dict set isinstance ord repr any all divmod
ValueError super""".split()
METHODS = """append clear copy count endswith extend find get index insert isalnum isalpha isdigit islower isspace isupper items join keys ljust lower lstrip
partition pop remove replace reverse rfind rjust rpartition rsplit rstrip setdefault split splitlines startswith strip update upper values zfill __init__""".split()
BARRED_IN_STRINGS = """type typing typing_extensions enum Enum IntEnum StrEnum Flag IntFlag Generic Protocol ABC ABCMeta namedtuple NamedTuple TypedDict
TYPE_CHECKING abstractmethod dataclass overload contextmanager""".split()
BARRED = BARRED_IN_STRINGS + """register mro elements open input law version_info with_traceback add_note eval exec exit globals locals vars id dir help os
sys gc builtins compile delattr getattr hasattr setattr quit license credits copyright breakpoint importlib attrgetter methodcaller""".split()
BARRED_STARTS = ("_wall", "_pe_", "_dcw_", "_enum_", "_cm_", "_twin_re_", "_lay_", "_law_", "_stub_", "_sre")
BARRED_NAMES = re.compile(r"(_cold|_tuplegetter|_outside|_record|_written_out|_member_names)[0-9_]*$")


def bound_names(tree):
    """All names that a file binds in any way."""
    for node in ast.walk(tree):
        if isinstance(node, (ast.FunctionDef, ast.ClassDef)):
            yield node.name
        if isinstance(node, ast.arg):
            yield node.arg
        if isinstance(node, ast.Name) and not isinstance(node.ctx, ast.Load):
            yield node.id
        if isinstance(node, ast.alias):
            yield node.asname or node.name
        if isinstance(node, ast.ExceptHandler) and node.name:
            yield node.name


def top_names(tree):
    for node in tree.body:
        if isinstance(node, (ast.FunctionDef, ast.ClassDef)):
            yield node.name
        if isinstance(node, ast.Assign):
            yield node.targets[0].id
        if isinstance(node, ast.ImportFrom):
            yield from (alias.name for alias in node.names)


class TestLanguage(unittest.TestCase):
    def setUp(self):
        self.trees = {path: ast.parse(path.read_text()) for path in FILES}

    def each(self, kinds):
        for path, tree in self.trees.items():
            for node in ast.walk(tree):
                if isinstance(node, kinds):
                    yield f"{path.relative_to(ROOT)}:{getattr(node, 'lineno', 0)}", node

    def test_files(self):
        self.assertGreater(len(FILES), 10)
        for path in FILES:
            self.assertRegex(path.name, r"^[a-z0-9_]+\.py$")
            self.assertTrue((path.parent / "__init__.py").exists())
            self.assertFalse((path.parent / path.stem).is_dir())
            self.assertNotIn(path.stem, [*dir(builtins), "test", "tests", "testing", "site", "conftest"])

    def test_sizes_and_characters(self):
        for path in FILES:
            text = path.read_text()
            self.assertTrue(all(sign == "\n" or " " <= sign <= "~" for sign in text), path)
            lines = text.split("\n")
            self.assertLessEqual(len(lines), 399)
            self.assertTrue(all(len(line) <= 120 and line == line.rstrip() for line in lines), path)
        for place, node in self.each(ast.FunctionDef):
            self.assertLessEqual(node.end_lineno - node.lineno + 1, 40, place)

    def test_statements_and_expressions(self):
        for place, node in self.each(ast.stmt):
            self.assertIsInstance(node, STATEMENTS, place)
        for place, node in self.each(NO_EXPRESSIONS):
            self.fail(place)
        for place, node in self.each((ast.FunctionDef, ast.ClassDef)):
            self.assertEqual(node.decorator_list, [], place)
            self.assertIsNotNone(ast.get_docstring(node) or node.name.startswith("__") or None, place)
        for place, node in self.each(ast.Compare):
            for sign, right in zip(node.ops, node.comparators):
                if isinstance(sign, (ast.Is, ast.IsNot)):
                    self.assertTrue(isinstance(right, ast.Constant) and right.value is None, place)
        for place, node in self.each(ast.BinOp):
            self.assertNotIsInstance(node.op, ast.Div, place)

    def test_module_level(self):
        for path, tree in self.trees.items():
            for node in tree.body:
                self.assertIsInstance(node, (ast.Expr, ast.ImportFrom, ast.FunctionDef, ast.ClassDef, ast.Assign), path)
                if isinstance(node, ast.Expr):
                    self.assertIsInstance(node.value.value, str)
                if isinstance(node, ast.Assign):
                    self.assertTrue(len(node.targets) == 1 and isinstance(node.targets[0], ast.Name), path)
                    ast.literal_eval(node.value)
            names = list(top_names(tree))
            self.assertEqual(len(names), len(set(names)), path)

    def test_imports_name_the_file_that_defines(self):
        needs = {}
        for path, tree in self.trees.items():
            needs[path] = set()
            for node in tree.body:
                if isinstance(node, ast.ImportFrom) and node.module == "math":
                    self.assertTrue(all(alias.name in ("gcd", "lcm") and alias.asname is None for alias in node.names), path)
                elif isinstance(node, ast.ImportFrom):
                    self.assertTrue(node.level == 0 and node.module.startswith("askround."), path)
                    source = ROOT / (node.module.replace(".", "/") + ".py")
                    needs[path].add(source)
                    made = [n.name for n in self.trees[source].body if isinstance(n, (ast.FunctionDef, ast.ClassDef))]
                    made += [n.targets[0].id for n in self.trees[source].body if isinstance(n, ast.Assign)]
                    for alias in node.names:
                        self.assertIsNone(alias.asname)
                        self.assertIn(alias.name, made, path)
        for _ in needs:
            needs = {path: found.union(*[needs[other] for other in found]) for path, found in needs.items()}
        for path, found in needs.items():
            self.assertNotIn(path, found)

    def test_each_import_is_used(self):
        for path, tree in self.trees.items():
            used = {node.id for node in ast.walk(tree) if isinstance(node, ast.Name)}
            for node in tree.body:
                if isinstance(node, ast.ImportFrom):
                    for alias in node.names:
                        self.assertIn(alias.name, used, path)

    def test_names(self):
        for path, tree in self.trees.items():
            imported = {alias.name for node in tree.body if isinstance(node, ast.ImportFrom) for alias in node.names}
            classes = {node.name for node in tree.body if isinstance(node, ast.ClassDef)}
            for name in bound_names(tree):
                self.assertNotIn(name, dir(builtins), path)
                self.assertNotIn(name, BARRED, path)
                self.assertIsNone(BARRED_NAMES.match(name), path)
                self.assertFalse(name.startswith(BARRED_STARTS), path)
                self.assertTrue(name in ("__init__", "__eq__", "__len__", "_") or not name.startswith("__"), path)
            locals_bound = {n.arg for n in ast.walk(tree) if isinstance(n, ast.arg)}
            locals_bound |= {n.id for n in ast.walk(tree) if isinstance(n, ast.Name) and isinstance(n.ctx, ast.Store)}
            self.assertEqual(locals_bound & (imported | classes), set(), path)

    def test_builtins_and_methods(self):
        own = {node.name for _, node in self.each(ast.FunctionDef)}
        for path, tree in self.trees.items():
            bound = set(bound_names(tree))
            for node in ast.walk(tree):
                if isinstance(node, ast.Name) and isinstance(node.ctx, ast.Load) and node.id not in bound:
                    self.assertIn(node.id, BUILTINS, path)
                if isinstance(node, ast.Call) and isinstance(node.func, ast.Attribute):
                    self.assertIn(node.func.attr, [*METHODS, *own], path)
                    self.assertEqual(node.keywords, [], path)
                if isinstance(node, ast.Attribute):
                    self.assertNotIn(node.attr, BARRED, path)

    def test_no_name_is_a_method_and_an_attribute(self):
        methods = {node.name for _, one in self.each(ast.ClassDef) for node in one.body if isinstance(node, ast.FunctionDef)}
        stored = {node.attr for _, node in self.each(ast.Attribute) if isinstance(node.ctx, ast.Store)}
        self.assertEqual(methods & stored, set())
        of_values = {name for kind in (str, int, list, dict, set, bytes, tuple) for name in dir(kind) if not name.startswith("__")}
        # A method, but no attribute, may have the name of one that only texts have.
        self.assertEqual((methods | stored) & of_values, {"join"})
        self.assertNotIn("join", stored)

    def test_underscore_is_never_read(self):
        for place, node in self.each(ast.Name):
            self.assertFalse(node.id == "_" and isinstance(node.ctx, ast.Load), place)

    def test_strings(self):
        for place, node in self.each(ast.Constant):
            if isinstance(node.value, str):
                self.assertNotIn("%", node.value, place)
                self.assertNotIn("__", node.value, place)
                self.assertNotRegex(node.value, r"\b(" + "|".join(BARRED_IN_STRINGS) + r")\b", place)
            else:
                self.assertNotIsInstance(node.value, float, place)

    def test_sets_are_only_measured(self):
        parents = {}
        for tree in self.trees.values():
            for node in ast.walk(tree):
                for child in ast.iter_child_nodes(node):
                    parents[child] = node
        for place, node in self.each((ast.Set, ast.SetComp, ast.Call)):
            if isinstance(node, ast.Call) and not (isinstance(node.func, ast.Name) and node.func.id == "set"):
                continue
            above = parents[node]
            self.assertTrue(isinstance(above, ast.Call) and above.func.id in ("len", "sorted"), place)

    def test_only_own_errors_are_caught(self):
        errors = {node.name for node in self.trees[PACKAGE / "errors.py"].body if isinstance(node, ast.ClassDef)}
        for place, node in self.each(ast.ExceptHandler):
            caught = node.type.elts if isinstance(node.type, ast.Tuple) else [node.type]
            for one in caught:
                self.assertIn(one.id, errors, place)


INTERFACE = {
    "words/kinds.py": "is_name(thing) is_kind(thing) kind_text(kind) read_kind(text) is_value(kind,thing) value_text(kind,value) read_value(kind,text)",
    "words/conditions.py": "is_condition(thing) condition_text(condition) read_condition(text) holds(condition,taken,person=0,folk=None)",
    "forms/trees.py": "is_form(thing) asks_of(form) keys_of(form) kind_of(form,key)",
    "forms/texts.py": "form_text(form) read_form(text)",
    "asking/plain.py": "read(form,answers,lets=None,all_let=False)",
    "asking/made.py": "made(form) run(rows,answers,lets=None,all_let=False)",
    "asking/classes.py": "classes_of(form,key) class_of(form,key,value) width_of(form)",
    "asking/states.py": "live_at(form,row) first_state(form) behind(form,state,number) table_of(form) is_table(form,thing) is_shut(form,key,thing)",
    "asking/comes.py": "come_to(form,key) shows_come(form,key,thing)",
    "asking/pairs.py": "two_forms(one,other) shows_two(one,other,thing)",
    "asking/hangs.py": "hangs_on(form,key) hang_pair(form,key,other) shows_hang(form,key,other,thing)",
    "book/entries.py": "is_book(thing) joined(one,other) answers_by(form,book) lets_by(form,book) read_by(form,book)",
    "book/changes.py": "carried(form,book,other,names=None)",
    "tables/fractions.py": "is_fraction(thing) fraction(p,q)",
    "tables/records.py": "are_records(form,thing) are_lines(form,thing,over=None)",
    "tables/sums.py": "cross(form,records,rows,columns,weights=None,over=None) added(one,other)",
    "tables/weights.py": "weights_for(fits,totals) shows_weights(fits,totals,thing)",
    "tables/hidden.py": "bounds_at(counts,hidden,place) shows_bounds(counts,hidden,place,thing) given_away(counts,hidden)",
    "desk/texts.py": "book_text(book) read_book(text)",
}


CLASSES = {
    "asking/askers.py": ("Asker", "__init__(self,form) tell(self,value) let(self) back(self) now(self) taken(self) lets(self) __eq__(self,other) __len__(self)"),
    "book/sittings.py": (
        "Sitting",
        "__init__(self,form) tell(self,moment,hand,key,value) strike(self,moment,hand,key) let(self,moment,hand,check) join(self,book) change(self,form,names=None) back(self) form(self)"
        " book(self) now(self) answers(self) __eq__(self,other) __len__(self)",
    ),
    "desk/desk.py": ("Desk", "__init__(self) say(self,row)"),
}


class TestInterface(unittest.TestCase):
    def test_each_method_is_defined_in_its_class_with_its_arguments(self):
        for name, (word, listed) in CLASSES.items():
            tree = ast.parse((PACKAGE / name).read_text())
            body = [node.body for node in tree.body if isinstance(node, ast.ClassDef) and node.name == word][0]
            made = {node.name: ast.unparse(node.args).replace(" ", "") for node in body if isinstance(node, ast.FunctionDef)}
            for call in listed.split():
                method, _, rest = call.partition("(")
                self.assertEqual(made.get(method), rest[:-1], call)

    def test_each_function_is_defined_in_its_file_with_its_arguments(self):
        for name, listed in INTERFACE.items():
            tree = ast.parse((PACKAGE / name).read_text())
            made = {node.name: ast.unparse(node.args).replace(" ", "") for node in tree.body if isinstance(node, ast.FunctionDef)}
            for call in listed.split():
                word, _, rest = call.partition("(")
                self.assertEqual(made.get(word), rest[:-1], call)

"""The interface's names stand where they are listed, and the package keeps to its part of the language."""

import ast
import builtins
import inspect
import pathlib
import re
import unittest
import warnings

import osier.books
import osier.breaks
import osier.errors
import osier.folding
import osier.growing
import osier.judging
import osier.lofts
import osier.pages
import osier.programs
import osier.tables
import osier.webs

PACKAGE = pathlib.Path(osier.webs.__file__).parent
FILES = sorted(PACKAGE.glob("*.py"))
BARRED_WORDS = (
    "type typing typing_extensions enum Enum IntEnum StrEnum Flag IntFlag Generic Protocol ABC ABCMeta namedtuple "
    "NamedTuple TypedDict TYPE_CHECKING abstractmethod"
).split()
BARRED_NAMES = (
    "register mro elements open input law version_info with_traceback add_note eval exec compile getattr setattr "
    "hasattr delattr globals locals vars dir id"
).split()
DOUBLE = ("__init__", "__eq__", "__repr__", "__len__")
METHODS = {
    osier.webs.Web: {
        "__init__": "(self, names=(), items=())",
        "name_rows": "(self)",
        "item_rows": "(self)",
        "target": "(self, name)",
        "is_heap": "(self)",
        "__eq__": "(self, other)",
        "__len__": "(self)",
        "__repr__": "(self)",
    },
    osier.books.Book: {
        "__init__": "(self, shapes)",
        "shape_rows": "(self)",
        "rules": "(self, name)",
        "height": "(self, name)",
        "leads_into": "(self, one, other)",
        "__eq__": "(self, other)",
        "__len__": "(self)",
        "__repr__": "(self)",
    },
    osier.programs.Program: {
        "__init__": "(self, rows, *, lossy=False)",
        "row_rows": "(self)",
        "names": "(self)",
        "__eq__": "(self, other)",
        "__len__": "(self)",
    },
    osier.lofts.Loft: {
        "__init__": "(self, book)",
        "begin": "(self, name, rows, starts, *, lossy=False)",
        "drop": "(self, name)",
        "put": "(self, name, number, row)",
        "right": "(self, name, number, row)",
        "take": "(self, name, number)",
        "wish": "(self, name, webs)",
        "rule": "(self, shape, number, rule)",
        "do_all": "(self, deeds)",
        "undo": "(self)",
        "redo": "(self)",
        "names": "(self)",
        "program": "(self, name)",
        "starts": "(self, name)",
        "wishes": "(self, name)",
        "judged": "(self, name, *, cells=3)",
        "book": "(self)",
        "twin": "(self)",
        "__eq__": "(self, other)",
        "__len__": "(self)",
    },
}
FUNCTIONS = {
    (osier.webs, "read_web"): "(text)",
    (osier.books, "need_items"): "(book, web)",
    (osier.growing, "openings"): "(book, web, point)",
    (osier.growing, "grown"): "(book, web, choices=())",
    (osier.growing, "heaps_of"): "(book, web, *, cells)",
    (osier.growing, "holds"): "(book, web, heap)",
    (osier.folding, "folds"): "(book, web)",
    (osier.folding, "folded"): "(book, web)",
    (osier.folding, "forms"): "(book, web)",
    (osier.folding, "comes_to"): "(book, web, others)",
    (osier.programs, "ready"): "(program, web)",
    (osier.programs, "touched"): "(program, number, web)",
    (osier.programs, "done"): "(program, number, web)",
    (osier.tables, "found_table"): "(book, program, starts, *, wishes=None)",
    (osier.tables, "closed"): "(book, program, starts, table, *, wishes=None)",
    (osier.breaks, "found_break"): "(book, program, starts, *, wishes=None, cells=3)",
    (osier.breaks, "breaks_by"): "(book, program, starts, run, *, wishes=None)",
    (osier.judging, "judge"): "(book, program, starts, *, wishes=None, cells=3)",
    (osier.pages, "write_page"): "(loft)",
    (osier.pages, "read_page"): "(text)",
}


class Interface(unittest.TestCase):
    def test_methods_stand_in_their_class(self):
        for kind, methods in METHODS.items():
            for name, told in methods.items():
                self.assertIn(name, vars(kind))
                self.assertEqual(str(inspect.signature(vars(kind)[name])), told)

    def test_defined_in_the_listed_file(self):
        for (module, name), told in FUNCTIONS.items():
            made = getattr(module, name)
            self.assertEqual(made.__module__, module.__name__)
            self.assertEqual(str(inspect.signature(made)), told)
        self.assertEqual(osier.webs.Web.__module__, "osier.webs")
        self.assertEqual(osier.books.Book.__module__, "osier.books")
        self.assertEqual(osier.programs.Program.__module__, "osier.programs")
        self.assertEqual(osier.lofts.Loft.__module__, "osier.lofts")

    def test_cells(self):
        self.assertEqual(osier.judging.CELLS, 3)
        self.assertIs(type(osier.judging.CELLS), int)


class Language(unittest.TestCase):
    def trees(self):
        for path in FILES:
            text = path.read_text(encoding="utf-8")
            yield path, text, ast.parse(text)

    def test_only_python_files(self):
        others = [path for path in PACKAGE.iterdir() if path.name != "__pycache__" and path not in FILES]
        self.assertEqual(others, [])
        for path in FILES:
            self.assertRegex(path.name, r"\A(__init__|[a-z][a-z0-9_]*)\.py\Z")

    def test_size_and_signs(self):
        for path, text, tree in self.trees():
            lines = text.split("\n")
            self.assertLessEqual(len(lines), 399, path)
            self.assertLessEqual(max(len(line) for line in lines), 120, path)
            self.assertTrue(all(sign == "\n" or " " <= sign <= "~" for sign in text), path)
            for node in ast.walk(tree):
                if isinstance(node, ast.Constant) and isinstance(node.value, str):
                    self.assertNotIn(chr(37), node.value, path)
                if isinstance(node, ast.FunctionDef):
                    self.assertLessEqual(node.end_lineno - node.lineno + 1, 40, (path, node.name))

    def test_no_warnings(self):
        for path, text, _ in self.trees():
            with warnings.catch_warnings():
                warnings.simplefilter("error")
                compile(text, str(path), "exec")

    def test_imports(self):
        for path, _, tree in self.trees():
            for node in ast.walk(tree):
                self.assertNotIsInstance(node, ast.Import, path)
                if isinstance(node, ast.ImportFrom):
                    self.assertIn(node, tree.body)
                    self.assertEqual(node.level, 0)
                    self.assertTrue(node.module.startswith("osier."), path)
                    source = ast.parse((PACKAGE / (node.module.split(".")[1] + ".py")).read_text())
                    defined = set()
                    for row in source.body:
                        defined.add(getattr(row, "name", None))
                        if isinstance(row, ast.Assign):
                            defined.add(row.targets[0].id)
                    for alias in node.names:
                        self.assertIn(alias.name, defined, path)

    def test_no_two_files_import_from_each_other(self):
        imports = {}
        for path, _, tree in self.trees():
            rows = [node for node in tree.body if isinstance(node, ast.ImportFrom)]
            imports[f"osier.{path.stem}"] = [node.module for node in rows]
        for first in imports:
            met, waiting = set(), list(imports[first])
            while waiting:
                module = waiting.pop()
                if module not in met:
                    met.add(module)
                    waiting.extend(imports[module])
            self.assertNotIn(first, met)

    def test_no_local_name_is_an_import_or_a_class(self):
        for path, _, tree in self.trees():
            outer = {alias.name for node in tree.body if isinstance(node, ast.ImportFrom) for alias in node.names}
            outer |= {node.name for node in tree.body if isinstance(node, ast.ClassDef)}
            for function in ast.walk(tree):
                if isinstance(function, ast.FunctionDef):
                    for node in ast.walk(function):
                        if isinstance(node, ast.arg):
                            self.assertNotIn(node.arg, outer, path)
                        if isinstance(node, ast.Name) and isinstance(node.ctx, ast.Store):
                            self.assertNotIn(node.id, outer, path)

    def test_plain_calls(self):
        for path, _, tree in self.trees():
            for node in ast.walk(tree):
                self.assertNotIsInstance(node, ast.GeneratorExp, path)
                if isinstance(node, ast.Attribute):
                    self.assertNotIn(node.attr, ("sort", "format", "encode", "decode"), path)
                if isinstance(node, ast.Compare) and any(isinstance(sign, (ast.Is, ast.IsNot)) for sign in node.ops):
                    self.assertTrue(all(isinstance(side, ast.Constant) for side in node.comparators), path)

    def test_words_and_names(self):
        for path, text, tree in self.trees():
            words = set(re.findall(r"\w+", text))
            self.assertEqual(words & set(BARRED_WORDS), set(), path)
            self.assertEqual(re.findall("dataclass|overload|contextmanager", text), [], path)
            for node in ast.walk(tree):
                name = None
                if isinstance(node, (ast.FunctionDef, ast.ClassDef)):
                    name = node.name
                elif isinstance(node, ast.arg):
                    name = node.arg
                elif isinstance(node, ast.Name) and isinstance(node.ctx, ast.Store):
                    name = node.id
                if name is not None and name not in DOUBLE:
                    self.assertFalse(name.startswith("_"), (path, name))
                    self.assertFalse(hasattr(builtins, name), (path, name))
                    self.assertNotIn(name, BARRED_NAMES, path)

    def test_module_level(self):
        for path, _, tree in self.trees():
            names = []
            for row in tree.body:
                if isinstance(row, ast.Expr):
                    self.assertIs(row, tree.body[0])
                    self.assertIsInstance(row.value.value, str)
                elif isinstance(row, ast.Assign):
                    self.plain_value(row.value, names)
                    names.extend(target.id for target in row.targets)
                elif isinstance(row, ast.ImportFrom):
                    names.extend(alias.asname or alias.name for alias in row.names)
                else:
                    self.assertIsInstance(row, (ast.FunctionDef, ast.ClassDef))
                    names.append(row.name)
            self.assertEqual(len(names), len(set(names)), path)

    def plain_value(self, value, above):
        """A literal, or a dict of functions that are defined above."""
        if isinstance(value, ast.Dict) and all(isinstance(part, ast.Name) for part in value.values):
            self.assertLessEqual({part.id for part in value.values}, set(above))
        else:
            ast.literal_eval(value)

    def test_methods_and_attributes_do_not_share_names(self):
        methods, attributes = set(), set()
        for _, _, tree in self.trees():
            for node in ast.walk(tree):
                if isinstance(node, ast.ClassDef):
                    methods.update(row.name for row in node.body if isinstance(row, ast.FunctionDef))
                if isinstance(node, ast.Attribute) and isinstance(node.ctx, ast.Store):
                    attributes.add(node.attr)
        self.assertEqual(methods & attributes, set())

    def test_no_floats_and_no_state(self):
        for path, _, tree in self.trees():
            for node in ast.walk(tree):
                barred = (ast.Div, ast.Global, ast.AsyncFunctionDef, ast.Await)
                self.assertNotIsInstance(node, barred, path)
                if isinstance(node, ast.Constant):
                    self.assertNotIsInstance(node.value, float, path)


if __name__ == "__main__":
    unittest.main()

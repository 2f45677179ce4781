"""What can be seen by a look at the code of the rules that it keeps to."""

import ast
import builtins
import unittest
from pathlib import Path

PACKAGE = Path(__file__).resolve().parent.parent / "dawnway"
FILES = sorted(PACKAGE.rglob("*.py"))
LIBRARY = {"heapq": {"heappop", "heappush", "heapify"}}
CALLED = set(
    "len range enumerate zip min max sum abs sorted reversed int str bool list tuple dict set isinstance ord repr any all "
    "divmod property".split()
)
KEYWORDS = {("sorted", "key"), ("min", "default"), ("max", "default")}
METHODS = set(
    "append clear copy count endswith extend find get index insert isalnum isalpha isdigit islower isspace isupper items "
    "join keys ljust lower lstrip partition pop remove replace reverse rfind rjust rpartition rsplit rstrip setdefault "
    "split splitlines startswith strip update upper values zfill bit_length".split()
)
DOUBLE = {"__init__", "__eq__", "__str__", "__len__", "__contains__", "__call__"}
BARRED = {
    "mro", "elements", "open", "input", "law", "version_info", "with_traceback", "add_note", "register", "type", "typing",
    "enum", "Enum", "namedtuple", "Protocol", "Generic", "ABC", "dataclass", "overload", "contextmanager", "_wall",
}


def names_bound(function):
    """All parameters and local variables of a function."""
    args = function.args
    found = [arg.arg for arg in (*args.posonlyargs, *args.args, *args.kwonlyargs)]
    found += [arg.arg for arg in (args.vararg, args.kwarg) if arg is not None]
    found += [node.id for node in ast.walk(function) if isinstance(node, ast.Name) and isinstance(node.ctx, ast.Store)]
    return found


class LanguageTest(unittest.TestCase):
    def each(self, *kinds):
        for path in FILES:
            for node in ast.walk(ast.parse(path.read_text())):
                if isinstance(node, kinds):
                    yield f"{path.relative_to(PACKAGE)}:{getattr(node, 'lineno', 0)}", node

    def functions(self):
        return self.each(ast.FunctionDef)

    def test_only_python_files(self):
        others = [path for path in PACKAGE.rglob("*") if path.is_file() and path.suffix != ".py" and path.suffix != ".pyc"]
        self.assertEqual(others, [])
        for path in FILES:
            self.assertTrue((path.parent / "__init__.py").exists())
            self.assertFalse(path.with_suffix("").is_dir())

    def test_sizes_and_signs(self):
        for path in FILES:
            text = path.read_text()
            lines = text.split("\n")
            self.assertLessEqual(len(lines) - 1, 399, path)
            self.assertTrue(text.endswith("\n") and "\n\n\n\n" not in text, path)
            for number, line in enumerate(lines):
                self.assertLessEqual(len(line), 120, (path, number + 1))
                self.assertEqual(line, line.rstrip(), (path, number + 1))
                self.assertTrue(all(" " <= sign <= "~" for sign in line), (path, number + 1))
        for place, node in self.functions():
            self.assertLessEqual(node.end_lineno - node.lineno + 1, 40, place)

    def test_docstrings(self):
        for place, node in self.each(ast.Module, ast.ClassDef, ast.FunctionDef):
            name = getattr(node, "name", "module")
            if not name.startswith("_"):
                self.assertIsNotNone(ast.get_docstring(node), (place, name))

    def test_module_level(self):
        for path in FILES:
            tree = ast.parse(path.read_text())
            bound = []
            for node in tree.body:
                self.assertIsInstance(node, (ast.Expr, ast.ImportFrom, ast.FunctionDef, ast.ClassDef, ast.Assign), path)
                if isinstance(node, ast.Expr):
                    self.assertIsInstance(node.value, ast.Constant)
                if isinstance(node, ast.Assign):
                    bound += [target.id for target in node.targets]
                if isinstance(node, ast.ImportFrom):
                    bound += [alias.asname or alias.name for alias in node.names]
                if isinstance(node, (ast.FunctionDef, ast.ClassDef)):
                    bound.append(node.name)
            self.assertEqual(len(bound), len(set(bound)), path)

    def test_imports(self):
        for place, node in self.each(ast.Import, ast.ImportFrom):
            self.assertIsInstance(node, ast.ImportFrom, place)
            self.assertEqual(node.level, 0, place)
            for alias in node.names:
                self.assertIsNone(alias.asname, place)
                if node.module.startswith("dawnway."):
                    source = PACKAGE.parent / (node.module.replace(".", "/") + ".py")
                    top = ast.parse(source.read_text()).body
                    told = [item.name for item in top if isinstance(item, (ast.FunctionDef, ast.ClassDef))]
                    told += [target.id for item in top if isinstance(item, ast.Assign) for target in item.targets]
                    self.assertIn(alias.name, told, place)
                    self.assertFalse(alias.name.startswith("_"), place)
                else:
                    self.assertIn(alias.name, LIBRARY[node.module], place)

    def test_imports_are_used(self):
        for path in FILES:
            tree = ast.parse(path.read_text())
            used = {node.id for node in ast.walk(tree) if isinstance(node, ast.Name)}
            for node in tree.body:
                if isinstance(node, ast.ImportFrom):
                    for alias in node.names:
                        self.assertIn(alias.name, used, path)

    def test_no_two_files_import_from_each_other(self):
        uses = {}
        for path in FILES:
            name = ".".join(path.relative_to(PACKAGE.parent).with_suffix("").parts)
            tree = ast.parse(path.read_text())
            uses[name] = [node.module for node in tree.body if isinstance(node, ast.ImportFrom)]

        def reached(name, way):
            self.assertNotIn(name, way)
            for other in uses.get(name, []):
                reached(other, (*way, name))

        for name in uses:
            reached(name, ())

    def test_no_name_is_taken_twice(self):
        for path in FILES:
            tree = ast.parse(path.read_text())
            top = [node.name for node in tree.body if isinstance(node, (ast.ClassDef, ast.FunctionDef))]
            top += [alias.name for node in tree.body if isinstance(node, ast.ImportFrom) for alias in node.names]
            for node in ast.walk(tree):
                if isinstance(node, ast.FunctionDef):
                    for name in set(names_bound(node)) - {"_"}:
                        self.assertNotIn(name, top, (path, node.name))
                        self.assertFalse(hasattr(builtins, name), (path, node.name, name))

    def test_barred_words(self):
        for place, node in self.each(ast.Name, ast.Attribute, ast.arg, ast.FunctionDef, ast.ClassDef, ast.keyword):
            name = next(getattr(node, key) for key in ("id", "attr", "arg", "name") if hasattr(node, key))
            self.assertNotIn(name, BARRED, place)
            if isinstance(name, str) and name.startswith("__"):
                self.assertIn(name, DOUBLE, place)

    def test_statements_and_expressions(self):
        barred = (
            ast.Try, ast.With, ast.Global, ast.Nonlocal, ast.GeneratorExp, ast.Set, ast.SetComp, ast.Match,
            ast.NamedExpr, ast.AsyncFunctionDef, ast.Await, ast.Div, ast.Mod, ast.AnnAssign, ast.Delete, ast.Assert,
        )
        for place, node in self.each(*barred):
            self.fail((place, node))
        for place, node in self.each(ast.Constant):
            self.assertNotIsInstance(node.value, (float, complex, bytes), place)
            if isinstance(node.value, str):
                self.assertNotIn("%", node.value, place)
        for place, node in self.each(ast.Compare):
            for operator, right in zip(node.ops, node.comparators):
                if isinstance(operator, (ast.Is, ast.IsNot)):
                    self.assertTrue(isinstance(right, ast.Constant) and right.value in (None, True, False), place)

    def test_lambdas(self):
        lines = [(place, tuple(arg.arg for arg in node.args.args)) for place, node in self.each(ast.Lambda)]
        self.assertEqual(len(lines), len(set(lines)))

    def test_stars_in_calls(self):
        for place, node in self.each(ast.Call):
            for arg in node.args:
                if isinstance(arg, ast.Starred) and isinstance(arg.value, ast.Attribute):
                    self.assertIsInstance(arg.value.value, ast.Name, place)
            for keyword in node.keywords:
                self.assertIsNotNone(keyword.arg, place)

    def test_functions(self):
        for place, node in self.functions():
            self.assertIsNone(node.returns, place)
            self.assertTrue(all(arg.annotation is None for arg in node.args.args), place)
            for decorator in node.decorator_list:
                self.assertTrue(isinstance(decorator, ast.Name) and decorator.id == "property", place)
            for inner in ast.walk(node):
                # A nested function is a value that is returned: it changes nothing around it.
                if isinstance(inner, ast.FunctionDef) and inner is not node:
                    self.assertTrue(any(isinstance(last, ast.Return) and getattr(last.value, "id", "") == inner.name
                                        for last in node.body), place)
            reads = [inner.id for inner in ast.walk(node) if isinstance(inner, ast.Name) and isinstance(inner.ctx, ast.Load)]
            self.assertNotIn("_", reads, place)

    def test_calls(self):
        for place, node in self.each(ast.Call):
            if isinstance(node.func, ast.Name) and hasattr(builtins, node.func.id):
                self.assertTrue(node.func.id in CALLED, (place, node.func.id))
                for keyword in node.keywords:
                    self.assertIn((node.func.id, keyword.arg), KEYWORDS, place)
                if node.func.id == "set":
                    self.assertIsInstance(node.args[0], ast.ListComp, place)
            for arg in node.args:
                if isinstance(arg, ast.Starred):
                    self.assertIsInstance(arg.value, (ast.Name, ast.Attribute), place)

    def test_names_of_builtin_values_are_used_as_such(self):
        own = {node.name for _, node in self.functions()}
        self.assertFalse(own & METHODS)
        for place, node in self.each(ast.Call):
            if isinstance(node.func, ast.Attribute):
                self.assertIn(node.func.attr, own | METHODS, place)

    def test_properties_and_methods_have_names_of_their_own(self):
        properties, methods = set(), set()
        for _, node in self.each(ast.ClassDef):
            for item in node.body:
                if isinstance(item, ast.FunctionDef):
                    (properties if item.decorator_list else methods).add(item.name)
        stored = {node.attr for _, node in self.each(ast.Attribute) if isinstance(node.ctx, ast.Store)}
        self.assertFalse(properties & methods)
        self.assertFalse(stored & (properties | methods))

    def test_loops_do_not_change_what_they_go_over(self):
        changing = METHODS - {"get", "count", "index", "items", "join", "keys", "values", "copy", "find"}
        for place, node in self.each(ast.For):
            over = {inner.id for inner in ast.walk(node.iter) if isinstance(inner, ast.Name)} - {"self"}
            for inner in [item for part in node.body for item in ast.walk(part)]:
                if isinstance(inner, ast.Call) and isinstance(inner.func, ast.Attribute):
                    if isinstance(inner.func.value, ast.Name) and inner.func.attr in changing:
                        self.assertNotIn(inner.func.value.id, over, place)
                if isinstance(inner, ast.Subscript) and isinstance(inner.ctx, ast.Store) and isinstance(inner.value, ast.Name):
                    self.assertNotIn(inner.value.id, over - {"len", "range"}, place)


if __name__ == "__main__":
    unittest.main()

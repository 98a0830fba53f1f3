"""The form of the package's files: a narrower choice of the language than its rules let."""

import ast
import builtins
import pathlib
import re
import unittest
import warnings

FOLDER = pathlib.Path(__file__).resolve().parent.parent / "fewvisits"
FILES = sorted(FOLDER.glob("*.py"))
BUILTINS = {"len", "range", "enumerate", "zip", "min", "max", "sum", "abs", "sorted", "reversed", "int", "str", "bool",
            "list", "tuple", "dict", "isinstance", "ord", "any", "all", "divmod", "type", "ValueError", "property",
            "staticmethod"}
METHODS = {"append", "clear", "copy", "count", "endswith", "extend", "find", "get", "index", "insert", "isdigit", "items",
           "join", "keys", "pop", "remove", "replace", "reverse", "setdefault", "split", "startswith", "strip",
           "update", "values"}
SPECIAL = {"__init__", "__eq__", "__str__", "__bool__"}
WORDS = ["typing", "enum", "Enum", "Flag", "Generic", "Protocol", "ABC", "namedtuple", "dataclass", "overload",
         "contextmanager", "_wall", "mro", "elements", "open", "input", "law", "register", "compile", "eval", "exec"]
BARRED = (ast.Lambda, ast.GeneratorExp, ast.Set, ast.SetComp, ast.Yield, ast.YieldFrom, ast.Await, ast.AsyncFor,
          ast.AsyncFunctionDef, ast.AsyncWith, ast.Global, ast.Nonlocal, ast.With, ast.NamedExpr, ast.Match,
          ast.Div, ast.MatMult, ast.Pow, ast.Import, ast.AnnAssign, ast.Delete)
OWN_BUILTINS_LIKE = {name for name in vars(builtins)}


def parsed(path):
    return ast.parse(path.read_text(encoding="ascii"))


def all_nodes(kind):
    for path in FILES:
        for node in ast.walk(parsed(path)):
            if isinstance(node, kind):
                yield path, node


def bound_names(function):
    """The parameters and the names that a function assigns, those of its comprehensions among them."""
    for node in ast.walk(function):
        if isinstance(node, ast.arg):
            yield node.arg
        elif isinstance(node, ast.Name) and isinstance(node.ctx, ast.Store):
            yield node.id


class Form(unittest.TestCase):

    def test_files(self):
        self.assertTrue(FILES)
        self.assertLessEqual(len(FILES), 100)
        for path in FOLDER.iterdir():
            if path.name != "__pycache__":
                self.assertRegex(path.name, r"^[a-z0-9_]+\.py$")
        for path in FILES:
            text = path.read_bytes()
            self.assertTrue(all(byte == 10 or 32 <= byte < 127 for byte in text), path)
            rows = text.decode("ascii").split("\n")
            self.assertLess(len(rows), 400, path)
            self.assertLessEqual(max(len(row) for row in rows), 120, path)
            self.assertTrue(ast.get_docstring(parsed(path)), path)
            with warnings.catch_warnings():
                warnings.simplefilter("error")
                compile(text, str(path), "exec")

    def test_module_level(self):
        for path in FILES:
            names = []
            for node in parsed(path).body:
                if isinstance(node, (ast.FunctionDef, ast.ClassDef)):
                    names.append(node.name)
                elif isinstance(node, ast.ImportFrom):
                    names += [alias.name for alias in node.names]
                elif isinstance(node, ast.Assign):
                    self.assertEqual(len(node.targets), 1)
                    ast.literal_eval(node.value)
                    names.append(node.targets[0].id)
                else:
                    self.assertIsInstance(node, ast.Expr)
                    self.assertIsInstance(node.value, ast.Constant)
            self.assertEqual(len(names), len(set(names)), path)
            self.assertFalse(set(names) & OWN_BUILTINS_LIKE, path)

    def test_imports(self):
        reads = {}
        for path in FILES:
            tree = parsed(path)
            rest = False
            used = {node.id for node in ast.walk(tree) if isinstance(node, ast.Name)}
            reads[path.stem] = []
            for node in tree.body[1:]:
                if not isinstance(node, ast.ImportFrom):
                    rest = True
                    continue
                self.assertFalse(rest, path)
                self.assertEqual(node.level, 0)
                package, name = node.module.split(".")
                self.assertEqual(package, "fewvisits")
                reads[path.stem].append(name)
                defined = {getattr(other, "name", None) for other in parsed(FOLDER / (name + ".py")).body}
                defined |= {other.targets[0].id for other in parsed(FOLDER / (name + ".py")).body
                            if isinstance(other, ast.Assign)}
                for alias in node.names:
                    self.assertIsNone(alias.asname)
                    self.assertIn(alias.name, defined)
                    self.assertIn(alias.name, used, path)
        done = set()
        while len(done) < len(reads):
            ready = [name for name in reads if name not in done and done.issuperset(reads[name])]
            self.assertTrue(ready, "files that import one another")
            done.update(ready)

    def test_barred_statements(self):
        for path, node in all_nodes(BARRED):
            self.fail((path.name, node.lineno, type(node).__name__))
        for path, node in all_nodes(ast.ImportFrom):
            self.assertEqual(node.col_offset, 0, path)

    def test_tries(self):
        own = {node.name for node in parsed(FOLDER / "errors.py").body if isinstance(node, ast.ClassDef)}
        for path, node in all_nodes(ast.Try):
            self.assertFalse(node.finalbody or node.orelse, path)
            for handler in node.handlers:
                self.assertIn(handler.type.id, own, path)
                self.assertIsNone(handler.name, path)

    def test_functions(self):
        for path, node in all_nodes(ast.FunctionDef):
            where = (path.name, node.name)
            self.assertLessEqual(node.end_lineno - node.lineno + 1, 40, where)
            self.assertFalse([name for name in node.decorator_list if getattr(name, "id", "") not in
                              ("staticmethod", "property")], where)
            for value in node.args.defaults:
                ast.literal_eval(value)
            if node.name.startswith("__"):
                self.assertIn(node.name, SPECIAL, where)
            inner = [other for other in ast.walk(node) if isinstance(other, ast.FunctionDef)]
            self.assertEqual(inner, [node], where)

    def test_names(self):
        for path in FILES:
            tree = parsed(path)
            barred = set(OWN_BUILTINS_LIKE)
            barred |= {node.name for node in tree.body if isinstance(node, (ast.ClassDef, ast.FunctionDef))}
            barred |= {alias.name for node in tree.body if isinstance(node, ast.ImportFrom) for alias in node.names}
            for node in ast.walk(tree):
                if isinstance(node, ast.FunctionDef):
                    names = set(bound_names(node))
                    self.assertFalse(names & barred, (path.name, node.name, names & barred))
                    self.assertFalse([name for name in names if name.startswith("_") and name != "_"])
                if isinstance(node, ast.Name) and isinstance(node.ctx, ast.Load):
                    self.assertNotEqual(node.id, "_", path)

    def test_builtins_and_methods(self):
        own = {node.name for _, node in all_nodes(ast.FunctionDef)}
        assigned = set()
        for _, node in all_nodes(ast.Attribute):
            if isinstance(node.ctx, ast.Store):
                assigned.add(node.attr)
        for path in FILES:
            tree = parsed(path)
            for node in ast.walk(tree):
                if isinstance(node, ast.Name) and node.id in OWN_BUILTINS_LIKE:
                    self.assertIn(node.id, BUILTINS, path)
                if isinstance(node, ast.Attribute) and isinstance(node.ctx, ast.Load):
                    self.assertIn(node.attr, own | assigned | METHODS, path)
                if isinstance(node, ast.Call) and isinstance(node.func, ast.Attribute) and node.func.attr == "sort":
                    self.fail((path.name, node.lineno))
        plain_values = [set(dir(value)) for value in (1, "", [], {}, set(), b"", ())]
        for name in assigned:
            self.assertFalse([names for names in plain_values if name in names], name)

    def test_no_name_is_a_method_and_an_attribute(self):
        methods = {name.name for _, node in all_nodes(ast.ClassDef) for name in node.body
                   if isinstance(name, ast.FunctionDef)}
        classes = {node.name for _, node in all_nodes(ast.ClassDef)}
        assigned = {node.attr for _, node in all_nodes(ast.Attribute) if isinstance(node.ctx, ast.Store)}
        # The interface wants these of a world, and of papers.
        self.assertLessEqual(methods & assigned, {"order", "out"})
        for _, node in all_nodes(ast.Attribute):
            self.assertFalse(isinstance(node.value, ast.Name) and node.value.id in classes, ast.dump(node))

    def test_is(self):
        for path, node in all_nodes(ast.Compare):
            for sign, right in zip(node.ops, node.comparators):
                if isinstance(sign, (ast.Is, ast.IsNot)):
                    by_class = isinstance(right, ast.Call) and right.func.id == "type"
                    self.assertTrue(by_class or (isinstance(right, ast.Constant) and right.value is None), path)

    def test_words_and_strings(self):
        for path in FILES:
            text = path.read_text(encoding="ascii")
            for word in WORDS:
                self.assertIsNone(re.search(r"\b" + word + r"\b", text), (path.name, word))
            for node in ast.walk(parsed(path)):
                if isinstance(node, ast.Constant):
                    self.assertNotIsInstance(node.value, (float, complex))
                    if isinstance(node.value, str):
                        self.assertNotIn("%", node.value)
                        self.assertFalse(node.value.startswith("__"))

    def test_raises(self):
        for path, node in all_nodes(ast.Raise):
            self.assertIsInstance(node.exc, ast.Call, path)
            self.assertIsInstance(node.exc.func, ast.Name, path)
            self.assertIsNone(node.cause)

    def test_loops_change_nothing_they_go_over(self):
        for path, node in all_nodes(ast.For):
            gone_over = {name.id for name in ast.walk(node.iter) if isinstance(name, ast.Name)}
            for inner in ast.walk(node):
                if isinstance(inner, ast.Call) and isinstance(inner.func, ast.Attribute):
                    changed = inner.func.attr in ("append", "extend", "insert", "pop", "remove", "setdefault", "update",
                                                  "clear", "reverse")
                    if changed and isinstance(inner.func.value, ast.Name):
                        self.assertNotIn(inner.func.value.id, gone_over, (path.name, inner.lineno))
                if isinstance(inner, ast.Subscript) and isinstance(inner.ctx, ast.Store):
                    if isinstance(inner.value, ast.Name):
                        self.assertNotIn(inner.value.id, gone_over, (path.name, inner.lineno))


if __name__ == "__main__":
    unittest.main()

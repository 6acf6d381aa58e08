"""The part of Python that the package keeps to: what of its rules a look at the files can tell."""

import ast
import builtins
import pathlib
import re
import unittest

PACKAGE = pathlib.Path(__file__).resolve().parent.parent / "hintmaps"
STATEMENTS = (ast.Assign, ast.AugAssign, ast.If, ast.While, ast.For, ast.Return, ast.Break, ast.Continue, ast.Pass,
              ast.Raise, ast.Try, ast.Expr, ast.FunctionDef, ast.ClassDef, ast.ImportFrom)
EXPRESSIONS = (ast.Constant, ast.List, ast.Tuple, ast.Dict, ast.BinOp, ast.UnaryOp, ast.BoolOp, ast.Compare, ast.IfExp,
               ast.Call, ast.Attribute, ast.Subscript, ast.Slice, ast.ListComp, ast.Name)
BUILTINS = ("len range enumerate zip min max sum abs sorted reversed int str bool list tuple dict isinstance "
            "any all divmod").split()
METHODS = "append clear copy count extend get index insert items keys pop setdefault update values".split()
FORBIDDEN_WORDS = ("type typing typing_extensions enum Enum IntEnum StrEnum Flag IntFlag Generic Protocol ABC ABCMeta "
                   "namedtuple NamedTuple TypedDict TYPE_CHECKING abstractmethod").split()
FORBIDDEN_NAMES = "register mro elements open input version_info with_traceback add_note format format_map".split()


def sources():
    return sorted(PACKAGE.rglob("*.py"))


def trees():
    return [(path.name, ast.parse(path.read_text())) for path in sources()]


class Files(unittest.TestCase):
    def test_one_folder_of_python_files(self):
        names = [path.name for path in PACKAGE.iterdir() if path.name != "__pycache__"]
        self.assertIn("__init__.py", names)
        for name in names:
            self.assertRegex(name, r"^[a-z0-9_]+\.py$")
            self.assertNotIn(name[:-3], dir(builtins) + ["test", "tests", "testing", "site", "conftest"])

    def test_sizes_and_signs(self):
        for path in sources():
            text = path.read_text(encoding="utf-8")
            lines = text.split("\n")
            self.assertLessEqual(len(lines), 400, path)
            self.assertLessEqual(max(len(line) for line in lines), 120, path)
            self.assertRegex(text, r"\A[ -~\n]*\Z", path)

    def test_words_that_stand_nowhere(self):
        for path in sources():
            words = re.findall(r"\w+", path.read_text())
            self.assertEqual([word for word in words if word in FORBIDDEN_WORDS], [], path)


class Code(unittest.TestCase):
    def nodes(self, kind):
        return [(name, node) for name, tree in trees() for node in ast.walk(tree) if isinstance(node, kind)]

    def test_statements_and_expressions(self):
        for name, node in self.nodes((ast.stmt, ast.expr)):
            self.assertIsInstance(node, STATEMENTS + EXPRESSIONS, (name, node.lineno))

    def test_no_division_no_float_no_bytes(self):
        self.assertEqual(self.nodes((ast.Div, ast.MatMult)), [])
        for name, node in self.nodes(ast.Constant):
            self.assertIsInstance(node.value, (int, str, type(None)), (name, node.lineno))

    def test_loops_and_assignments(self):
        for name, node in self.nodes((ast.For, ast.While)):
            self.assertEqual(node.orelse, [], (name, node.lineno))
        for name, node in self.nodes(ast.Assign):
            self.assertEqual(len(node.targets), 1, (name, node.lineno))
            self.assertIsInstance(node.targets[0], (ast.Name, ast.Attribute, ast.Subscript), (name, node.lineno))
        for name, node in self.nodes(ast.ListComp):
            self.assertEqual(len(node.generators), 1, (name, node.lineno))
            self.assertLessEqual(len(node.generators[0].ifs), 1, (name, node.lineno))

    def test_imports_are_the_package_s_own_and_go_one_way(self):
        drawn = {}
        for name, node in self.nodes(ast.ImportFrom):
            self.assertEqual(node.level, 0, name)
            self.assertRegex(node.module, r"^hintmaps\.\w+$")
            drawn.setdefault(name[:-3], []).append(node.module.split(".")[1])
            defined = ast.parse((PACKAGE / (node.module.split(".")[1] + ".py")).read_text()).body
            names = [top.name for top in defined if isinstance(top, (ast.FunctionDef, ast.ClassDef))]
            names += [top.targets[0].id for top in defined if isinstance(top, ast.Assign)]
            for alias in node.names:
                self.assertIn(alias.name, names)
                self.assertIsNone(alias.asname)
        while drawn:
            ends = [name for name in drawn if not any(other in drawn for other in drawn[name])]
            self.assertNotEqual(ends, [], drawn)
            for name in ends:
                del drawn[name]

    def test_functions(self):
        for name, node in self.nodes(ast.FunctionDef):
            self.assertLessEqual(node.end_lineno - node.lineno + 1, 40, (name, node.name))
            self.assertEqual(node.decorator_list, [])
            given = node.args
            self.assertEqual((given.vararg, given.kwarg, given.kwonlyargs, given.posonlyargs), (None, None, [], []))

    def test_names(self):
        for name, tree in trees():
            top = [node.name for node in tree.body if isinstance(node, (ast.FunctionDef, ast.ClassDef))]
            top += [node.targets[0].id for node in tree.body if isinstance(node, ast.Assign)]
            top += [alias.name for node in tree.body if isinstance(node, ast.ImportFrom) for alias in node.names]
            self.assertEqual(len(top), len(set(top)), name)
            bound = [node.id for node in ast.walk(tree) if isinstance(node, ast.Name)
                     and isinstance(node.ctx, ast.Store) and node not in self.top_targets(tree)]
            bound += [node.arg for node in ast.walk(tree) if isinstance(node, ast.arg)]
            for word in bound:
                self.assertRegex(word, r"^[A-Za-z]\w*$", name)
                self.assertNotIn(word, dir(builtins), name)
                self.assertNotIn(word, top, name)
            for node in ast.walk(tree):
                if isinstance(node, ast.Name) and isinstance(node.ctx, ast.Load):
                    self.assertIn(node.id, top + bound + BUILTINS, (name, node.lineno))
                if isinstance(node, (ast.FunctionDef, ast.ClassDef)) and node.name != "__init__":
                    self.assertRegex(node.name, r"^[A-Za-z]\w*$", name)
                    self.assertNotIn(node.name, FORBIDDEN_NAMES + dir(builtins), name)

    def top_targets(self, tree):
        return [node.targets[0] for node in tree.body if isinstance(node, ast.Assign)]

    def test_methods_and_values(self):
        stored = [node.attr for name, node in self.nodes(ast.Attribute) if isinstance(node.ctx, ast.Store)]
        for word in stored:
            self.assertNotIn(word, FORBIDDEN_NAMES)
            for kind in (str, int, list, dict, set, bytes, tuple):
                self.assertFalse(hasattr(kind, word), word)
        called = [node.func.attr for name, node in self.nodes(ast.Call) if isinstance(node.func, ast.Attribute)]
        self.assertEqual([word for word in called if word not in METHODS], [])
        read = [node.attr for name, node in self.nodes(ast.Attribute) if isinstance(node.ctx, ast.Load)]
        self.assertEqual([word for word in read if word not in stored + METHODS], [])

    def test_is_stands_beside_none_alone(self):
        for name, node in self.nodes(ast.Compare):
            for sign, right in zip(node.ops, node.comparators):
                if isinstance(sign, (ast.Is, ast.IsNot)):
                    self.assertIsInstance(right, ast.Constant, (name, node.lineno))

    def test_nothing_is_done_at_the_top_of_a_file(self):
        for name, tree in trees():
            self.assertIsInstance(ast.get_docstring(tree), str, name)
            for node in tree.body[1:]:
                self.assertIsInstance(node, (ast.ImportFrom, ast.FunctionDef, ast.ClassDef, ast.Assign), name)
                if isinstance(node, ast.Assign):
                    self.assertEqual([sub for sub in ast.walk(node) if isinstance(sub, (ast.Call, ast.ListComp))], [])


if __name__ == "__main__":
    unittest.main()

"""Holds the package's files to the rules of LANGUAGE.md that a walk through the syntax tree can see."""

import ast
import builtins
import pathlib
import re
import unittest

PACKAGE = pathlib.Path(__file__).resolve().parent.parent / "hostfields"

NAMES = set("""len range enumerate zip min max sum abs sorted reversed int str bool list tuple dict set frozenset
    isinstance ord repr any all divmod Exception ValueError TypeError KeyError IndexError LookupError ZeroDivisionError
    ArithmeticError OverflowError RuntimeError NotImplementedError AttributeError StopIteration""".split())
METHODS = set("""append clear copy count endswith extend find get index insert isalnum isalpha isdigit islower isspace
    isupper items join keys ljust lower lstrip partition pop remove replace reverse rfind rjust rpartition rsplit rstrip
    setdefault split splitlines startswith strip update upper values zfill bit_length""".split())
DUNDERS = ("__init__", "__eq__", "__repr__", "__str__", "__len__")
WORDS = set("""type typing typing_extensions enum Enum IntEnum StrEnum Flag IntFlag Generic Protocol ABC ABCMeta
    namedtuple NamedTuple TypedDict TYPE_CHECKING abstractmethod""".split())
UNUSED = set("register mro elements open input version_info with_traceback add_note format format_map".split())

WALKERS = ("list", "tuple", "dict", "sorted", "sum", "any", "all", "enumerate", "zip", "min", "max")
KEYWORDS = (("sorted", "key"), ("sorted", "reverse"), ("min", "key"), ("min", "default"), ("max", "key"),
            ("max", "default"), ("sum", "start"), ("enumerate", "start"), ("zip", "strict"))

STATEMENTS = (ast.Assign, ast.AugAssign, ast.If, ast.While, ast.For, ast.Return, ast.Break, ast.Continue, ast.Pass,
              ast.Raise, ast.Try, ast.Expr, ast.FunctionDef, ast.ClassDef, ast.ImportFrom)
EXPRESSIONS = (ast.Constant, ast.List, ast.Tuple, ast.Dict, ast.Set, ast.BinOp, ast.UnaryOp, ast.BoolOp, ast.Compare,
               ast.IfExp, ast.Call, ast.Attribute, ast.Subscript, ast.Slice, ast.ListComp, ast.JoinedStr,
               ast.FormattedValue, ast.Name, ast.Lambda)


def files():
    return sorted(PACKAGE.glob("*.py"))


def bound_names(node):
    if isinstance(node, (ast.FunctionDef, ast.ClassDef)):
        return [node.name]
    if isinstance(node, ast.arg):
        return [node.arg]
    if isinstance(node, ast.Name) and isinstance(node.ctx, ast.Store):
        return [node.id]
    return []


class LanguageTest(unittest.TestCase):
    def nodes(self):
        for path in files():
            for node in ast.walk(ast.parse(path.read_text(encoding="utf-8"))):
                yield f"{path.name}:{getattr(node, 'lineno', 0)}", node

    def test_files(self):
        self.assertTrue(files())
        self.assertTrue((PACKAGE / "__init__.py").is_file())
        for path in PACKAGE.iterdir():
            if path.name != "__pycache__":
                self.assertRegex(path.name, r"\A[a-z0-9_]+\.py\Z")
                self.assertNotIn(path.stem, dir(builtins))
                self.assertFalse(path.stem in WORDS or path.stem.startswith("test"), path.name)

    def test_signs_words_and_sizes(self):
        for path in files():
            text = path.read_text(encoding="utf-8")
            self.assertRegex(text, r"\A[ -~\n]*\Z", path.name)
            self.assertEqual(WORDS & set(re.findall(r"\w+", text)), set(), path.name)
            self.assertNotRegex(text, "dataclass|overload|contextmanager", path.name)
            self.assertLessEqual(len(text.splitlines()), 400, path.name)
            for row in text.splitlines():
                self.assertLessEqual(len(row), 120, path.name)
        for place, node in self.nodes():
            if isinstance(node, ast.FunctionDef):
                self.assertLessEqual(node.end_lineno - node.lineno + 1, 40, place)

    def test_imports(self):
        drawn = {}
        for path in files():
            tree = ast.parse(path.read_text(encoding="utf-8"))
            drawn[path.stem] = []
            for node in [node for node in ast.walk(tree) if isinstance(node, (ast.Import, ast.ImportFrom))]:
                self.assertIsInstance(node, ast.ImportFrom, path.name)
                self.assertIn(node, tree.body, path.name)
                self.assertRegex(node.module, r"\Ahostfields\.[a-z]+\Z")
                self.assertEqual(node.level, 0)
                source = node.module.split(".")[1]
                drawn[path.stem].append(source)
                defined = ast.parse((PACKAGE / (source + ".py")).read_text(encoding="utf-8")).body
                names = [name for row in defined for part in ast.walk(row) for name in bound_names(part)]
                for alias in node.names:
                    self.assertIn(alias.name, names, path.name)
        # Take away files that draw from none that is left; a ring of files would stay.
        while drawn:
            free = [stem for stem in drawn if not set(drawn[stem]) & set(drawn)]
            self.assertTrue(free, f"files that draw from one another: {sorted(drawn)}")
            drawn = {stem: sources for stem, sources in drawn.items() if stem not in free}

    def test_statements_and_expressions(self):
        for place, node in self.nodes():
            if isinstance(node, ast.stmt):
                self.assertIsInstance(node, STATEMENTS, place)
            if isinstance(node, ast.expr):
                self.assertIsInstance(node, EXPRESSIONS, place)
            if isinstance(node, ast.Assign):
                self.assertEqual(len(node.targets), 1, place)
            if isinstance(node, (ast.For, ast.While)):
                self.assertEqual(node.orelse, [], place)
            if isinstance(node, ast.Try):
                self.assertEqual(node.finalbody, [], place)
            if isinstance(node, ast.ListComp):
                self.assertEqual(len(node.generators), 1, place)
                self.assertLessEqual(len(node.generators[0].ifs), 1, place)
            if isinstance(node, (ast.BinOp, ast.AugAssign)):
                self.assertNotIsInstance(node.op, (ast.Div, ast.MatMult), place)
            if isinstance(node, ast.Constant):
                self.assertNotIsInstance(node.value, (float, complex, bytes), place)
                self.assertFalse(isinstance(node.value, str) and "\u0025" in node.value, place)
            if isinstance(node, ast.Compare) and any(isinstance(op, (ast.Is, ast.IsNot)) for op in node.ops):
                self.assertIn(repr(getattr(node.comparators[0], "value", 0)), ("None", "True", "False"), place)

    def test_texts_with_names_in_them(self):
        for place, node in self.nodes():
            if isinstance(node, ast.FormattedValue):
                self.assertIsInstance(node.value, ast.Name, place)
                self.assertTrue(node.format_spec is None and node.conversion in (-1, ord("r")), place)

    def test_tops_of_modules(self):
        for path in files():
            for row in ast.parse(path.read_text(encoding="utf-8")).body:
                self.assertIsInstance(row, (ast.Expr, ast.ImportFrom, ast.FunctionDef, ast.ClassDef, ast.Assign), path)
                if isinstance(row, ast.Expr):
                    self.assertIsInstance(row.value.value, str, path)
                if isinstance(row, ast.Assign):
                    ast.literal_eval(row.value)

    def test_no_sets_powers_or_annotations(self):
        # Rules 13, 21, 24 and 27 allow little of these: the program has none.
        for place, node in self.nodes():
            self.assertNotIsInstance(node, (ast.Set, ast.Pow, ast.AnnAssign), place)
            self.assertFalse(isinstance(node, ast.Name) and node.id in ("set", "frozenset", "chr"), place)
            self.assertFalse(getattr(node, "annotation", None) or getattr(node, "returns", None), place)

    def test_what_is_walked_at_once(self):
        for place, node in self.nodes():
            walked = [node.iter] if isinstance(node, (ast.For, ast.comprehension)) else []
            if isinstance(node, ast.Call) and isinstance(node.func, ast.Name) and node.func.id in WALKERS:
                walked = node.args
            for part in walked:
                part.walked_at_once = True
            if isinstance(node, ast.Call) and getattr(node.func, "id", "") in ("zip", "enumerate", "reversed", "range"):
                self.assertTrue(getattr(node, "walked_at_once", False), place)
            if isinstance(node, ast.Call) and getattr(node.func, "attr", "") in ("items", "keys", "values"):
                self.assertTrue(getattr(node, "walked_at_once", False), place)

    def test_keywords(self):
        for place, node in self.nodes():
            for keyword in node.keywords if isinstance(node, ast.Call) else ():
                self.assertIn((getattr(node.func, "id", ""), keyword.arg), KEYWORDS, place)

    def test_own_methods_and_values_have_names_of_their_own(self):
        methods = set()
        values = set()
        for place, node in self.nodes():
            if isinstance(node, ast.ClassDef):
                methods |= {row.name for row in node.body if isinstance(row, ast.FunctionDef)}
            if isinstance(node, ast.Attribute) and isinstance(node.ctx, ast.Store):
                values.add(node.attr)
        self.assertEqual(methods & values, set())
        kinds = (str, int, list, dict, set, tuple, bytes)
        taken = {name for name in methods | values for kind in kinds if name in dir(kind)}
        self.assertEqual(taken - set(DUNDERS), set())

    def test_functions_and_classes(self):
        for place, node in self.nodes():
            if isinstance(node, ast.FunctionDef):
                handed = node.args
                self.assertFalse(handed.vararg or handed.kwarg or handed.kwonlyargs or node.decorator_list, place)
            if isinstance(node, ast.ClassDef):
                self.assertFalse(node.decorator_list or node.keywords or len(node.bases) > 1, place)
                for row in node.body:
                    self.assertIsInstance(row, (ast.FunctionDef, ast.Pass), place)

    def test_names(self):
        for place, node in self.nodes():
            for name in bound_names(node):
                self.assertTrue(re.fullmatch(r"[A-Za-z]\w*", name) or name in DUNDERS, (place, name))
                self.assertFalse(name in dir(builtins) or name in UNUSED, (place, name))
            if isinstance(node, ast.Name) and node.id in dir(builtins):
                self.assertIn(node.id, NAMES, place)
            if isinstance(node, ast.Attribute):
                self.assertNotIn(node.attr, UNUSED, place)
                known = [name for kind in (str, int, list, dict, set, tuple) for name in dir(kind)]
                self.assertTrue(node.attr in METHODS or node.attr not in known, (place, node.attr))

    def test_no_local_is_called_like_a_class_or_an_import(self):
        for path in files():
            tree = ast.parse(path.read_text(encoding="utf-8"))
            taken = [row.name for row in tree.body if isinstance(row, ast.ClassDef)]
            taken += [alias.name for row in tree.body if isinstance(row, ast.ImportFrom) for alias in row.names]
            for function in [node for node in ast.walk(tree) if isinstance(node, ast.FunctionDef)]:
                bound = [name for node in ast.walk(function) for name in bound_names(node)]
                self.assertEqual(set(bound) & set(taken), set(), path.name)


if __name__ == "__main__":
    unittest.main()

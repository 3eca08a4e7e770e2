"""The rules of the language that a look at the package's files can tell."""

import ast
import builtins
import pathlib
import re
import unittest

PACKAGE = pathlib.Path(__file__).resolve().parent.parent / "herdline"

NODES = set("""
    Module ImportFrom alias FunctionDef arguments arg ClassDef Assign AugAssign If While For Return Break Continue
    Pass Raise Try ExceptHandler Expr Constant Name Attribute Subscript Slice Call keyword List Tuple Dict Set
    ListComp comprehension Lambda BinOp UnaryOp BoolOp Compare IfExp JoinedStr FormattedValue Load Store
    Add Sub Mult FloorDiv Mod Pow BitAnd BitOr BitXor LShift RShift Invert USub UAdd Not And Or
    Eq NotEq Lt LtE Gt GtE Is IsNot In NotIn
""".split())

BUILT_IN = set("""
    len range enumerate zip min max sum abs sorted reversed int str bool list tuple dict set frozenset isinstance
    ord repr any all divmod Exception ValueError TypeError KeyError IndexError LookupError ZeroDivisionError
    ArithmeticError OverflowError RuntimeError NotImplementedError AttributeError StopIteration
""".split())

METHODS = set("__init__ __eq__ __repr__ __str__ __len__".split())

WORDS = set("""
    type typing typing_extensions enum Enum IntEnum StrEnum Flag IntFlag Generic Protocol ABC ABCMeta namedtuple
    NamedTuple TypedDict TYPE_CHECKING abstractmethod
""".split())

# Those of Python's own methods that may be called.
CALLED = set("""
    append clear copy count endswith extend find get index insert isalnum isalpha isdigit islower isspace isupper
    items join keys ljust lower lstrip partition pop remove replace reverse rfind rjust rpartition rsplit rstrip
    setdefault split splitlines startswith strip update upper values zfill bit_length
""".split())


def sources():
    """Each file of the package with its text and its tree."""
    for path in sorted(PACKAGE.rglob("*.py")):
        text = path.read_text(encoding="utf-8")
        yield path.name, text, ast.parse(text)


def bound_names(tree):
    """Every name that the tree binds, parameters with it."""
    for node in ast.walk(tree):
        if isinstance(node, (ast.FunctionDef, ast.ClassDef)):
            yield node.name
        elif isinstance(node, ast.arg):
            yield node.arg
        elif isinstance(node, ast.Name) and isinstance(node.ctx, ast.Store):
            yield node.id


class Language(unittest.TestCase):
    def test_only_plain_files(self):
        found = [path for path in PACKAGE.rglob("*") if "__pycache__" not in path.parts]
        self.assertIn(PACKAGE / "__init__.py", found)
        for path in found:
            self.assertRegex(path.name, r"\A[a-z0-9_]+\.py\Z")

    def test_signs_and_sizes(self):
        for name, text, tree in sources():
            self.assertIsNone(re.search(r"[^ -~\n]", text), name)
            rows = text.split("\n")
            self.assertLessEqual(len(rows), 400, name)
            self.assertLessEqual(max(len(row) for row in rows), 120, name)
            for node in ast.walk(tree):
                if isinstance(node, ast.FunctionDef):
                    self.assertLessEqual(node.end_lineno - node.lineno + 1, 40, node.name)

    def test_words_that_are_not_used(self):
        for name, text, tree in sources():
            self.assertEqual(set(re.findall(r"\w+", text)) & WORDS, set(), name)
            self.assertIsNone(re.search("dataclass|overload|contextmanager", text), name)

    def test_statements_and_expressions(self):
        for name, text, tree in sources():
            kinds = {type(node).__name__ for node in ast.walk(tree)}
            self.assertEqual(kinds - NODES, set(), name)
            for node in ast.walk(tree):
                if isinstance(node, ast.Constant):
                    self.assertIn(type(node.value), (int, str, bool, type(None)), name)
                elif isinstance(node, ast.Assign):
                    self.assertEqual(len(node.targets), 1, name)
                elif isinstance(node, (ast.FunctionDef, ast.ClassDef)):
                    self.assertEqual(node.decorator_list, [], name)
                elif isinstance(node, (ast.For, ast.While)):
                    self.assertEqual(node.orelse, [], name)

    def test_names(self):
        for name, text, tree in sources():
            for bound in set(bound_names(tree)) - METHODS:
                self.assertRegex(bound, r"\A[A-Za-z][A-Za-z0-9_]*\Z", name)
                self.assertFalse(hasattr(builtins, bound), f"{name}: {bound}")
            read = {node.id for node in ast.walk(tree) if isinstance(node, ast.Name)}
            self.assertEqual({one for one in read if hasattr(builtins, one)} - BUILT_IN, set(), name)

    def test_no_name_stands_for_two_things(self):
        for name, text, tree in sources():
            tops = [node.name for node in tree.body if isinstance(node, (ast.FunctionDef, ast.ClassDef))]
            tops += [one.name for node in tree.body if isinstance(node, ast.ImportFrom) for one in node.names]
            tops += [target.id for node in tree.body if isinstance(node, ast.Assign) for target in node.targets]
            self.assertEqual(len(tops), len(set(tops)), name)
            for node in ast.walk(tree):
                if isinstance(node, ast.FunctionDef):
                    within = set(bound_names(node)) - {node.name}
                    self.assertEqual(within & set(tops), set(), f"{name}: {node.name}")

    def test_is_stands_beside_none_and_truths_alone(self):
        for name, text, tree in sources():
            for node in ast.walk(tree):
                if isinstance(node, ast.Compare) and isinstance(node.ops[0], (ast.Is, ast.IsNot)):
                    self.assertIn(ast.unparse(node.comparators[0]), ("None", "True", "False"), name)

    def test_methods_and_values(self):
        pythons = {one for kind in (str, int, list, tuple, dict, set, bytes) for one in dir(kind)}
        for name, text, tree in sources():
            methods = {node.name for top in tree.body if isinstance(top, ast.ClassDef) for node in top.body
                       if isinstance(node, ast.FunctionDef)} - METHODS
            kept = {node.attr for node in ast.walk(tree)
                    if isinstance(node, ast.Attribute) and isinstance(node.ctx, ast.Store)}
            self.assertEqual((methods | kept) & pythons, set(), name)
            self.assertEqual(methods & kept, set(), name)
            read = {node.attr for node in ast.walk(tree) if isinstance(node, ast.Attribute)}
            self.assertEqual(read - methods - kept - CALLED, set(), name)

    def test_imports(self):
        trees = {f"herdline.{name[:-3]}": tree for name, text, tree in sources()}
        drawn = {}
        for module, tree in trees.items():
            drawn[module] = set()
            for node in ast.walk(tree):
                if isinstance(node, ast.ImportFrom):
                    self.assertIn(node, tree.body)
                    self.assertEqual(node.level, 0)
                    drawn[module] |= {node.module, "herdline.__init__"}
                    defined = set(bound_names(trees[node.module]))
                    self.assertLessEqual({one.name for one in node.names}, defined)
        while drawn:
            free = {module for module in drawn if not drawn[module] & set(drawn)}
            self.assertTrue(free, f"drawn from one another: {sorted(drawn)}")
            drawn = {module: drawn[module] for module in drawn if module not in free}


if __name__ == "__main__":
    unittest.main()

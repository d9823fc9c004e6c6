"""Those rules for the code of the package that can be told from its files alone."""

import ast
import pathlib
import re
import unittest

PACKAGE = pathlib.Path(__file__).resolve().parent.parent / "tornlines"
BUILTINS = ("len range enumerate zip min max sum abs sorted reversed int str bool list tuple dict set isinstance ord"
            " repr any all divmod iter next bytes ValueError KeyError IndexError LookupError ZeroDivisionError"
            " OverflowError RuntimeError TypeError").split()
BARRED_WORDS = ("type typing typing_extensions enum Enum IntEnum StrEnum Flag IntFlag Generic Protocol ABC ABCMeta"
                " namedtuple NamedTuple TypedDict TYPE_CHECKING abstractmethod").split()
# Methods of builtin values that the package may call; those of its own classes come with later files.
METHODS = ("append clear copy count endswith extend find get index insert isalnum isalpha isdigit islower isspace"
           " isupper items join keys ljust lower lstrip partition pop remove replace reverse rfind rjust rpartition"
           " rsplit rstrip setdefault split splitlines startswith strip update upper values zfill bit_length"
           " removeprefix removesuffix isascii").split()
BARRED_PARTS = ("dataclass", "overload", "contextmanager")
OWN_METHODS = ("__init__ __call__ __enter__ __exit__ __len__ __getitem__ __iter__ __contains__ __eq__").split()


def files():
    return [path for path in sorted(PACKAGE.rglob("*")) if "__pycache__" not in path.parts]


def nodes_of(kind):
    """All nodes of a kind in the package."""
    trees = [ast.parse(path.read_text(encoding="utf-8")) for path in files()]
    return [node for tree in trees for node in ast.walk(tree) if isinstance(node, kind)]


def class_methods():
    """The names of all methods and properties in the package."""
    return {part.name for node in nodes_of(ast.ClassDef) for part in node.body if isinstance(part, ast.FunctionDef)}


def bound_names(tree):
    """All names that a file gives to something."""
    for node in ast.walk(tree):
        if isinstance(node, (ast.FunctionDef, ast.ClassDef)):
            yield node.name
        elif isinstance(node, ast.arg):
            yield node.arg
        elif isinstance(node, ast.Name) and isinstance(node.ctx, ast.Store):
            yield node.id
        elif isinstance(node, ast.alias):
            yield node.asname or node.name


class LanguageTest(unittest.TestCase):
    def each(self):
        for path in files():
            text = path.read_text(encoding="utf-8")
            yield path.name, text, ast.parse(text)

    def test_files(self):
        for path in files():
            self.assertTrue(path.is_file() and re.fullmatch(r"[a-z][a-z0-9]*\.py|__init__\.py", path.name), path)

    def test_size_and_characters(self):
        for name, text, tree in self.each():
            self.assertLessEqual(len(text.splitlines()), 399, name)
            self.assertIsNone(re.search(r"[^ -~\n]", text), name)
            self.assertLessEqual(max(map(len, text.splitlines())), 120, name)
            for node in ast.walk(tree):
                if isinstance(node, ast.FunctionDef):
                    self.assertLessEqual(node.end_lineno - node.lineno + 1, 40, node.name)

    def test_words(self):
        for name, text, tree in self.each():
            words = re.findall(r"\w+", text)
            self.assertEqual([word for word in words if word in BARRED_WORDS], [], name)
            self.assertEqual([part for part in BARRED_PARTS if part in text], [], name)
            strings = [node.value for node in ast.walk(tree) if isinstance(node, ast.Constant)]
            self.assertEqual([text for text in strings if isinstance(text, str) and "%" in text], [], name)

    def test_names(self):
        for name, text, tree in self.each():
            for bound in bound_names(tree):
                self.assertTrue(not bound.startswith("_") or bound in OWN_METHODS, (name, bound))
                self.assertNotIn(bound, BUILTINS, name)

    def test_methods(self):
        known = set(METHODS) | class_methods()
        for name, text, tree in self.each():
            for node in ast.walk(tree):
                if isinstance(node, ast.Call) and isinstance(node.func, ast.Attribute):
                    self.assertIn(node.func.attr, known, (name, node.lineno))
                    self.assertEqual(node.keywords, [], (name, node.lineno))

    def test_what_is_not_used(self):
        barred = (ast.GeneratorExp, ast.Lambda, ast.Global, ast.AsyncFunctionDef, ast.Starred, ast.Div, ast.Pow,
                  ast.AnnAssign)
        for name, text, tree in self.each():
            for node in ast.walk(tree):
                self.assertNotIsInstance(node, barred, (name, getattr(node, "lineno", None)))
                if isinstance(node, ast.Constant):
                    self.assertNotIsInstance(node.value, (float, complex), (name, node.lineno))
                if isinstance(node, ast.FunctionDef):
                    decorators = [ast.unparse(part) for part in node.decorator_list]
                    self.assertIn(decorators, ([], ["property"]), (name, node.name))

    def test_plain_values_at_module_level(self):
        for name, text, tree in self.each():
            for node in tree.body:
                if isinstance(node, ast.Assign):
                    self.assertEqual(len(node.targets), 1, (name, node.lineno))
                    self.check_plain(node.value, tree)

    def check_plain(self, value, tree):
        """A plain value; one in a dict may be a function that is defined above."""
        if not isinstance(value, ast.Dict):
            ast.literal_eval(value)
            return
        above = [node.name for node in tree.body if isinstance(node, ast.FunctionDef) and node.lineno < value.lineno]
        for part in value.keys + value.values:
            if isinstance(part, ast.Name):
                self.assertIn(part.id, above)
            else:
                ast.literal_eval(part)

    def test_methods_are_no_attributes(self):
        stored = {node.attr for node in nodes_of(ast.Attribute) if isinstance(node.ctx, ast.Store)}
        self.assertEqual(stored & class_methods(), set())
        read = {node.attr for node in nodes_of(ast.Attribute) if isinstance(node.ctx, ast.Load)}
        self.assertEqual(read - stored - class_methods() - set(METHODS), set())

    def test_where_classes_compare(self):
        # Then nothing is sorted in place, and no error of Python's own is caught.
        self.assertEqual([node.lineno for node in nodes_of(ast.Attribute) if node.attr == "sort"], [])
        own = {node.name for node in nodes_of(ast.ClassDef)}
        for node in nodes_of(ast.ExceptHandler):
            caught = node.type.elts if isinstance(node.type, ast.Tuple) else [node.type]
            self.assertLessEqual({part.id for part in caught}, own)

    def test_imports_go_one_way(self):
        told = {}
        for path in files():
            tree = ast.parse(path.read_text(encoding="utf-8"))
            told[path.stem] = {node.module.split(".")[1] for node in tree.body if isinstance(node, ast.ImportFrom)}
        while told:
            free = [name for name in told if not told[name] & set(told)]
            self.assertNotEqual(free, [])
            for name in free:
                del told[name]

    def test_sets_are_not_iterated(self):
        for name, text, tree in self.each():
            for node in ast.walk(tree):
                if isinstance(node, (ast.For, ast.comprehension)):
                    self.assertNotIsInstance(node.iter, (ast.Set, ast.SetComp), name)
                    called = node.iter.func.id if self.is_named_call(node.iter) else None
                    self.assertNotIn(called, ("set", "frozenset"), name)

    def is_named_call(self, node):
        return isinstance(node, ast.Call) and isinstance(node.func, ast.Name)

    def test_module_level(self):
        for name, text, tree in self.each():
            self.assertIsNotNone(ast.get_docstring(tree), name)
            for node in tree.body[1:]:
                kinds = (ast.ImportFrom, ast.FunctionDef, ast.ClassDef, ast.Assign)
                self.assertIsInstance(node, kinds, (name, node.lineno))

    def test_imports(self):
        for name, text, tree in self.each():
            for node in ast.walk(tree):
                self.assertNotIsInstance(node, ast.Import, name)
                if isinstance(node, ast.ImportFrom):
                    self.assertEqual(node.module.split(".")[0], "tornlines", name)
                    self.check_import(node)

    def check_import(self, node):
        """A name is imported from the very file that defines it."""
        source = (PACKAGE / (node.module.split(".")[1] + ".py")).read_text(encoding="utf-8")
        own = [part.name for part in ast.parse(source).body if isinstance(part, (ast.FunctionDef, ast.ClassDef))]
        own += [target.id for part in ast.parse(source).body if isinstance(part, ast.Assign) for target in part.targets]
        for alias in node.names:
            self.assertIn(alias.name, own)


if __name__ == "__main__":
    unittest.main()

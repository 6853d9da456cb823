"""The package keeps those rules of the language that can be told from its text."""

import ast
import os
import unittest

import wakesafe

FOLDER = os.path.dirname(wakesafe.__file__)
BUILTINS = """len range enumerate zip min max sum abs sorted reversed int str bool bytes list tuple dict set frozenset
isinstance ord repr any all divmod pow getattr hasattr setattr iter next super property staticmethod classmethod object
Exception ValueError TypeError KeyError IndexError LookupError ZeroDivisionError ArithmeticError OverflowError
RuntimeError NotImplementedError AttributeError StopIteration NotImplemented map""".split()
OPERATORS = """init eq repr str len enter exit call iter lt le gt ge ne add sub mul floordiv mod pow and or xor lshift
rshift radd rsub rmul rfloordiv rmod rand ror rxor rlshift rrshift iadd isub imul ifloordiv imod ipow iand ior ixor
ilshift irshift neg pos invert abs bool contains getitem setitem""".split()
LIBRARY = ("heapq", "math", "itertools", "collections", "__future__")
STATEMENTS = (ast.Global, ast.AsyncFunctionDef, ast.AsyncFor, ast.AsyncWith, ast.Await, ast.Import)
WORDS = """typing typing_extensions enum Enum IntEnum StrEnum Flag IntFlag Generic Protocol ABC ABCMeta namedtuple
NamedTuple TypedDict TYPE_CHECKING abstractmethod dataclass overload contextmanager""".split()
BARRED = ["register", "mro", "elements", "open", "input", "law", "version_info", "with_traceback", "add_note"]
CAUGHT = ["KeyError", "ZeroDivisionError", "StopIteration", "ValueError", "LookupError", "IndexError"]


def files():
    """The path and text of each file of the package."""
    for name in sorted(os.listdir(FOLDER)):
        if name != "__pycache__":
            with open(os.path.join(FOLDER, name), encoding="utf-8", newline="") as file:
                yield name, file.read()


def trees():
    for name, text in files():
        yield name, ast.parse(text)


def nodes():
    """Each node of each file, with a word that tells where it is."""
    for name, tree in trees():
        for node in ast.walk(tree):
            yield f"{name}:{getattr(node, 'lineno', 0)}", node


def has_docstring(body):
    first = body[0]
    return isinstance(first, ast.Expr) and isinstance(first.value, ast.Constant) and isinstance(first.value.value, str)


class FilesTest(unittest.TestCase):
    def test_files_and_characters(self):
        for name, text in files():
            self.assertTrue(name.endswith(".py") and name == name.lower() and name[:-3].replace("_", "a").isalnum(), name)
            self.assertTrue(all(" " <= letter <= "~" or letter == "\n" for letter in text), name)

    def test_sizes(self):
        for name, text in files():
            lines = text.split("\n")
            self.assertLessEqual(len(lines), 400, name)
            self.assertLessEqual(max([len(line) for line in lines]), 120, name)
        for place, node in nodes():
            if isinstance(node, ast.FunctionDef):
                self.assertLessEqual(node.end_lineno - node.lineno + 1, 40, place)

    def test_module_level(self):
        for name, tree in trees():
            self.assertTrue(has_docstring(tree.body), name)
            for node in tree.body[1:]:
                self.assertIsInstance(node, (ast.ImportFrom, ast.FunctionDef, ast.ClassDef, ast.Assign), name)

    def test_each_name_is_bound_once(self):
        for name, tree in trees():
            bound = [alias.asname or alias.name for node in tree.body if isinstance(node, ast.ImportFrom)
                     for alias in node.names]
            bound += [node.name for node in tree.body if isinstance(node, (ast.FunctionDef, ast.ClassDef))]
            bound += [node.targets[0].id for node in tree.body if isinstance(node, ast.Assign)]
            self.assertEqual(len(bound), len(set(bound)), name)


class ImportsTest(unittest.TestCase):
    def test_imports(self):
        for place, node in nodes():
            if isinstance(node, ast.ImportFrom):
                self.assertEqual(node.level, 0, place)
                self.assertTrue(node.module in LIBRARY or node.module.startswith("wakesafe."), place)

    def test_imports_name_the_file_that_defines(self):
        defined = {}
        for name, tree in trees():
            names = [node.name for node in tree.body if isinstance(node, (ast.FunctionDef, ast.ClassDef))]
            names += [node.targets[0].id for node in tree.body if isinstance(node, ast.Assign)]
            defined["wakesafe." + name[:-3]] = names
        for place, node in nodes():
            if isinstance(node, ast.ImportFrom) and node.module not in LIBRARY:
                for alias in node.names:
                    self.assertIn(alias.name, defined[node.module], place)

    def test_no_circle(self):
        imports = {}
        for name, tree in trees():
            found = [node.module for node in tree.body if isinstance(node, ast.ImportFrom)]
            imports["wakesafe." + name[:-3]] = [module for module in found if module not in LIBRARY]
        while imports:
            free = [module for module in imports if not any(other in imports for other in imports[module])]
            self.assertTrue(free, list(imports))
            for module in free:
                del imports[module]


class ClassesTest(unittest.TestCase):
    def test_methods_and_attributes(self):
        methods, properties = {}, []
        for _, node in nodes():
            if isinstance(node, ast.ClassDef):
                own = [one for one in node.body if isinstance(one, ast.FunctionDef)]
                methods[node.name] = [one.name for one in own]
                properties += [one.name for one in own if "property" in [getattr(by, "id", "") for by in one.decorator_list]]
        assigned = [(place, node.attr) for place, node in nodes() if isinstance(node, ast.Attribute)
                    and isinstance(node.ctx, ast.Store)]
        for place, name in assigned:
            self.assertNotIn(name, properties, place)
            self.assertNotIn(name, [one for own in methods.values() for one in own], place)

    def test_leaving_a_with_statement_only_assigns(self):
        found = [node for _, node in nodes() if isinstance(node, ast.FunctionDef) and node.name == "__exit__"]
        self.assertEqual(len(found), 1)
        for row in found[0].body:
            self.assertIsInstance(row, ast.Assign)
            self.assertIsInstance(row.value, ast.Attribute)


class WordsTest(unittest.TestCase):
    def test_statements(self):
        for place, node in nodes():
            self.assertNotIsInstance(node, STATEMENTS, place)
            if isinstance(node, ast.ExceptHandler):
                kinds = node.type.elts if isinstance(node.type, ast.Tuple) else [node.type]
                for kind in kinds:
                    self.assertTrue(kind.id in CAUGHT or kind.id not in BUILTINS, place)
            if isinstance(node, ast.Constant):
                self.assertNotIsInstance(node.value, (float, complex), place)
            if isinstance(node, ast.BinOp):
                self.assertNotIsInstance(node.op, (ast.Div, ast.MatMult), place)

    def test_any_and_all_take_lists(self):
        for place, node in nodes():
            if isinstance(node, ast.Call) and getattr(node.func, "id", "") in ("any", "all", "min", "max", "sum", "sorted"):
                for given in node.args:
                    self.assertNotIsInstance(given, ast.GeneratorExp, place)

    def test_is_stands_beside_constants(self):
        for place, node in nodes():
            if isinstance(node, ast.Compare) and any(isinstance(sign, (ast.Is, ast.IsNot)) for sign in node.ops):
                sides = [node.left, *node.comparators]
                self.assertTrue(any(isinstance(side, ast.Constant) or getattr(side, "id", "") == "self" for side in sides))

    def test_methods_with_two_underscores(self):
        for place, node in nodes():
            if isinstance(node, ast.FunctionDef) and node.name.startswith("__"):
                self.assertIn(node.name.strip("_"), OPERATORS, place)

    def test_builtins(self):
        # The underscore is there only while examples are tried.
        every = [name for name in dir(__import__("builtins")) if name != "_"]
        for place, node in nodes():
            if isinstance(node, ast.Name) and node.id in every:
                self.assertIn(node.id, BUILTINS, place)
                self.assertIsInstance(node.ctx, ast.Load, place)
            if isinstance(node, ast.arg):
                self.assertNotIn(node.arg, every, place)

    def test_barred_names(self):
        for place, node in nodes():
            for field in ("id", "attr", "arg", "name", "asname"):
                self.assertNotIn(getattr(node, field, None), BARRED, place)

    def test_barred_words(self):
        for place, node in nodes():
            for field in ("id", "attr", "arg", "name"):
                self.assertNotIn(getattr(node, field, None), WORDS + ["type"], place)

    def test_strings(self):
        for place, node in nodes():
            if isinstance(node, ast.Constant) and isinstance(node.value, str):
                self.assertNotIn("%", node.value, place)
                self.assertFalse(node.value.endswith(("._", ".__")), place)


if __name__ == "__main__":
    unittest.main()

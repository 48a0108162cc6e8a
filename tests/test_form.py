"""The form of the package: what can be seen of ../shared/LANGUAGE.md by reading the files."""

import ast
import builtins
import pathlib
import re
import unittest

PACKAGE = pathlib.Path(__file__).resolve().parent.parent / "replaytravel"

BUILTINS = set("""len range enumerate zip min max sum abs sorted reversed int str bool bytes list tuple dict set
    isinstance ord repr any all divmod Exception ValueError TypeError KeyError IndexError LookupError
    ZeroDivisionError ArithmeticError OverflowError RuntimeError NotImplementedError AttributeError
    StopIteration""".split())
METHODS = set("""append clear copy count endswith extend find get index insert isalnum isalpha isdigit islower
    isspace isupper items join keys ljust lower lstrip partition pop remove replace reverse rfind rjust
    rpartition rsplit rstrip setdefault split splitlines startswith strip update upper values zfill bit_length
    title capitalize swapcase casefold center expandtabs removeprefix removesuffix rindex isascii isdecimal
    isnumeric istitle isidentifier isprintable""".split())
DOUBLE = {"__init__", "__eq__", "__repr__", "__str__", "__len__"}
NO_NAMES = set("""register mro elements open input version_info with_traceback add_note attrgetter breakpoint
    builtins compile copyright credits delattr dir eval exec exit gc getattr globals hasattr help id importlib
    license locals methodcaller os quit setattr super type vars sys""".split())
NO_WORDS = """type typing typing_extensions enum Enum IntEnum StrEnum Flag IntFlag Generic Protocol ABC ABCMeta
    namedtuple NamedTuple TypedDict TYPE_CHECKING abstractmethod""".split()
BARRED = (ast.Global, ast.AsyncFunctionDef, ast.AsyncFor, ast.AsyncWith, ast.Await, ast.Import, ast.Div, ast.MatMult)
TAKE_LISTS = ("any", "all", "min", "max", "sum", "sorted")


def sources():
    return {path.stem: path.read_text(encoding="utf-8") for path in sorted(PACKAGE.glob("*.py"))}


def trees():
    return {name: ast.parse(text) for name, text in sources().items()}


def functions(tree):
    return [node for node in ast.walk(tree) if isinstance(node, ast.FunctionDef)]


def classes(tree):
    return [node for node in ast.walk(tree) if isinstance(node, ast.ClassDef)]


def imports(tree):
    return [node for node in ast.walk(tree) if isinstance(node, ast.ImportFrom)]


def local_names(tree):
    names = {node.id for node in ast.walk(tree) if isinstance(node, ast.Name) and isinstance(node.ctx, ast.Store)}
    names |= {node.name for node in ast.walk(tree) if isinstance(node, ast.ExceptHandler) and node.name}
    return names | {node.arg for node in ast.walk(tree) if isinstance(node, ast.arg)}


def top_names(tree):
    names = []
    for node in tree.body:
        if isinstance(node, (ast.FunctionDef, ast.ClassDef)):
            names.append(node.name)
        elif isinstance(node, ast.ImportFrom):
            names.extend([alias.asname or alias.name for alias in node.names])
        elif isinstance(node, ast.Assign):
            names.extend([target.id for target in node.targets])
    return names


def attributes_of(node):
    """The attributes that a class assigns to its own objects."""
    return {part.attr for part in ast.walk(node) if isinstance(part, ast.Attribute) and isinstance(part.ctx, ast.Store)}


class FilesTest(unittest.TestCase):
    def test_the_folder_holds_nothing_else(self):
        for path in PACKAGE.iterdir():
            if path.name != "__pycache__":
                with self.subTest(path=path.name):
                    self.assertRegex(path.name, r"\A(__init__|[a-z][a-z0-9_]*)\.py\Z")
                    self.assertFalse(path.name != "__init__.py" and hasattr(builtins, path.stem))

    def test_signs_and_sizes(self):
        for name, text in sources().items():
            with self.subTest(name=name):
                self.assertRegex(text, r"\A[ -~\n]*\Z")
                lines = text.split("\n")
                self.assertTrue(len(lines) <= 401)
                self.assertTrue(max([len(line) for line in lines]) <= 120)
                self.assertNotRegex(text, r"dataclass|overload|contextmanager")
                for word in NO_WORDS:
                    self.assertNotRegex(text, rf"\b{word}\b")

    def test_functions_are_short(self):
        for name, tree in trees().items():
            for node in functions(tree):
                with self.subTest(name=name, function=node.name):
                    self.assertTrue(node.end_lineno - node.lineno + 1 <= 40)

    def test_strings(self):
        for name, tree in trees().items():
            for node in ast.walk(tree):
                if isinstance(node, ast.Constant):
                    with self.subTest(name=name, line=node.lineno):
                        self.assertNotIsInstance(node.value, (float, complex))
                        self.assertNotIn("%", str(node.value))


class ImportsTest(unittest.TestCase):
    def test_each_names_the_very_file(self):
        tops = {name: top_names(tree) for name, tree in trees().items()}
        for name, tree in trees().items():
            for node in imports(tree):
                with self.subTest(name=name, line=node.lineno):
                    self.assertEqual((node.level, node.module[:13]), (0, "replaytravel."))
                    self.assertIn(node, tree.body)
                    home = ast.parse(sources()[node.module[13:]])
                    taken = [alias for other in imports(home) for alias in top_names(ast.Module([other], []))]
                    for alias in node.names:
                        self.assertIn(alias.name, tops[node.module[13:]])
                        self.assertNotIn(alias.name, taken)

    def test_each_is_used(self):
        for name, tree in trees().items():
            read = {node.id for node in ast.walk(tree) if isinstance(node, ast.Name)}
            for node in imports(tree):
                for alias in node.names:
                    with self.subTest(name=name, imported=alias.name):
                        self.assertIn(alias.asname or alias.name, read)

    def test_none_goes_round(self):
        needs = {name: {node.module[13:] for node in imports(tree)} for name, tree in trees().items()}
        while needs:
            free = [name for name in needs if not needs[name]]
            self.assertTrue(free, f"these import each other: {sorted(needs)}")
            needs = {name: needs[name] - set(free) for name in needs if name not in free}


class NamesTest(unittest.TestCase):
    def test_names_are_plain(self):
        for name, tree in trees().items():
            own = local_names(tree) | set(top_names(tree)) | {node.name for node in functions(tree)}
            for word in sorted(own - DOUBLE):
                with self.subTest(name=name, word=word):
                    self.assertRegex(word, r"\A[A-Za-z][A-Za-z0-9_]*\Z")
                    self.assertNotIn(word, NO_NAMES)

    def test_one_binding_at_module_level(self):
        for name, tree in trees().items():
            tops = top_names(tree)
            with self.subTest(name=name):
                self.assertEqual(len(tops), len(set(tops)))
                for node in tree.body:
                    plain = (ast.FunctionDef, ast.ClassDef, ast.ImportFrom, ast.Assign)
                    self.assertTrue(isinstance(node, plain) or isinstance(node.value, ast.Constant))

    def test_locals_hide_nothing(self):
        for name, tree in trees().items():
            held = {alias for node in imports(tree) for alias in top_names(ast.Module([node], []))}
            held |= {node.name for node in classes(tree)}
            for node in functions(tree):
                for word in sorted(local_names(node)):
                    with self.subTest(name=name, function=node.name, word=word):
                        self.assertNotIn(word, held)
                        self.assertFalse(hasattr(builtins, word))

    def test_methods_and_attributes_are_told_apart(self):
        methods, attributes = set(), set()
        for tree in trees().values():
            for node in classes(tree):
                own = [part.name for part in node.body if isinstance(part, ast.FunctionDef)]
                self.assertEqual(len(own), len(set(own)))
                methods |= set(own)
            attributes |= attributes_of(tree)
        self.assertEqual(methods & attributes, set())
        for word in sorted((methods | attributes) - DOUBLE):
            with self.subTest(word=word):
                kinds = (str, int, list, dict, set, bytes, tuple)
                self.assertFalse([kind for kind in kinds if hasattr(kind, word)])
                self.assertNotIn(word, NO_NAMES)

    def test_attributes_that_are_read_are_assigned(self):
        known = set().union(*[attributes_of(tree) for tree in trees().values()])
        known |= {node.name for tree in trees().values() for node in functions(tree)} | METHODS
        for name, tree in trees().items():
            for node in ast.walk(tree):
                if isinstance(node, ast.Attribute):
                    with self.subTest(name=name, line=node.lineno, attribute=node.attr):
                        self.assertIn(node.attr, known)


class StatementsTest(unittest.TestCase):
    def test_builtins(self):
        for name, tree in trees().items():
            own = local_names(tree) | set(top_names(tree))
            for node in ast.walk(tree):
                if isinstance(node, ast.Name) and node.id not in own:
                    with self.subTest(name=name, line=node.lineno, word=node.id):
                        self.assertIn(node.id, BUILTINS)

    def test_nothing_barred(self):
        for name, tree in trees().items():
            for node in ast.walk(tree):
                self.assertNotIsInstance(node, BARRED, name)
                if isinstance(node, ast.FunctionDef):
                    self.assertEqual((node.decorator_list, node.args.posonlyargs), ([], []))
                if isinstance(node, ast.Compare) and any(isinstance(op, (ast.Is, ast.IsNot)) for op in node.ops):
                    self.assertIsInstance(node.comparators[0], ast.Constant)

    def test_lists_where_a_class_compares(self):
        for name, tree in trees().items():
            for node in ast.walk(tree):
                if isinstance(node, ast.Call) and isinstance(node.func, ast.Name) and node.func.id in TAKE_LISTS:
                    with self.subTest(name=name, line=node.lineno):
                        self.assertNotIsInstance(node.args[0], ast.GeneratorExp)

    def test_handlers_name_own_errors_alone(self):
        own = {node.name for node in classes(trees()["errors"])}
        for name, tree in trees().items():
            for node in ast.walk(tree):
                if isinstance(node, ast.ExceptHandler):
                    caught = node.type.elts if isinstance(node.type, ast.Tuple) else [node.type]
                    with self.subTest(name=name, line=node.lineno):
                        self.assertEqual({part.id for part in caught} - own, set())
                if isinstance(node, ast.Raise) and node.exc is not None:
                    with self.subTest(name=name, line=node.lineno):
                        self.assertIn(node.exc.func.id, own)

    def test_double_underscores(self):
        for name, tree in trees().items():
            for word in re.findall(r"\b__\w+", sources()[name]):
                self.assertIn(word, DOUBLE)
            for node in functions(tree):
                if node.name in ("__eq__", "__len__"):
                    with self.subTest(name=name, line=node.lineno):
                        self.assertIsInstance(node.body[-1], ast.Return)


class DocstringsTest(unittest.TestCase):
    def test_each_part_has_one(self):
        for name, tree in trees().items():
            for node in [tree, *functions(tree), *classes(tree)]:
                if getattr(node, "name", "") not in DOUBLE:
                    with self.subTest(name=name, node=getattr(node, "name", "")):
                        self.assertTrue(ast.get_docstring(node))


if __name__ == "__main__":
    unittest.main()

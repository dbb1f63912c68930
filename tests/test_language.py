"""The part of Python that the package keeps to, as far as it can be seen in its files."""

import ast
import builtins
import pathlib
import re
import unittest

PACKAGE = pathlib.Path(__file__).resolve().parent.parent / "shopbound"

ERRORS = """
    Exception ValueError TypeError KeyError IndexError LookupError ZeroDivisionError ArithmeticError
    OverflowError RuntimeError NotImplementedError AttributeError StopIteration
""".split()
BUILTINS = ERRORS + """
    len range enumerate zip min max sum abs sorted reversed int str bool list tuple dict set frozenset
    isinstance ord repr any all divmod
""".split()
METHODS = """
    append clear copy count endswith extend find get index insert isalnum isalpha isdigit islower isspace
    isupper items join keys ljust lower lstrip partition pop remove replace reverse rfind rjust rpartition
    rsplit rstrip setdefault split splitlines startswith strip update upper values zfill bit_length
""".split()
DUNDERS = ("__init__", "__eq__", "__repr__", "__str__", "__len__")
NOT_AS_NAMES = """
    attrgetter breakpoint builtins compile copyright credits delattr dir eval exec exit gc getattr globals
    hasattr help id importlib license locals methodcaller os quit setattr super type vars sys register mro
    elements open input version_info with_traceback add_note
""".split()
NOT_AS_VALUES = "items keys values pop update append clear extend insert remove reverse setdefault sort args encode format"
WORDS = """
    type typing typing_extensions enum Enum IntEnum StrEnum Flag IntFlag Generic Protocol ABC ABCMeta
    namedtuple NamedTuple TypedDict TYPE_CHECKING abstractmethod
""".split()
NODES = (
    ast.Module, ast.Expr, ast.ImportFrom, ast.alias, ast.FunctionDef, ast.ClassDef, ast.arguments, ast.arg,
    ast.Lambda, ast.Assign, ast.AugAssign, ast.If, ast.While, ast.For, ast.Return, ast.Break, ast.Continue,
    ast.Pass, ast.Raise, ast.Try, ast.ExceptHandler, ast.Call, ast.keyword, ast.Attribute, ast.Name,
    ast.Subscript, ast.Slice, ast.Constant, ast.List, ast.Tuple, ast.Dict, ast.BinOp, ast.UnaryOp, ast.BoolOp,
    ast.Compare, ast.IfExp, ast.ListComp, ast.comprehension, ast.JoinedStr, ast.FormattedValue,
    ast.expr_context, ast.operator, ast.unaryop, ast.boolop, ast.cmpop,
)
OUT = (ast.Div, ast.MatMult)


def files():
    return sorted(PACKAGE.glob("*.py"))


def walk(path):
    return ast.walk(ast.parse(path.read_text(encoding="utf-8")))


def every(kind):
    for path in files():
        for node in walk(path):
            if isinstance(node, kind):
                yield path, node


def at(path, node):
    return f"{path.name}:{getattr(node, 'lineno', 0)}"


def own_methods():
    return {part.name for _, node in every(ast.ClassDef) for part in node.body if isinstance(part, ast.FunctionDef)}


def own_values():
    return {
        node.attr for _, node in every(ast.Attribute)
        if isinstance(node.ctx, ast.Store)
    }


def top_names(path):
    found = []
    for node in ast.parse(path.read_text(encoding="utf-8")).body:
        if isinstance(node, (ast.FunctionDef, ast.ClassDef)):
            found.append(node.name)
        elif isinstance(node, ast.Assign):
            found.append(node.targets[0].id)
    return found


def drawn_from(path):
    return [node.module for node in walk(path) if isinstance(node, ast.ImportFrom)]


class FilesTest(unittest.TestCase):
    def test_there_are_files(self):
        self.assertIn("shopbound/__init__.py", [f"shopbound/{path.name}" for path in files()])

    def test_nothing_else_lies_in_the_package(self):
        others = [path.name for path in PACKAGE.iterdir() if path.suffix != ".py" and path.name != "__pycache__"]
        self.assertEqual(others, [])

    def test_file_names(self):
        for path in files():
            self.assertRegex(path.stem, r"^(__init__|__main__|[a-z][a-z0-9_]*)$")
            self.assertFalse(path.stem in vars(builtins), path.name)
            self.assertNotRegex(path.stem, r"^(test.*|site|conftest|sitecustomize|usercustomize)$")

    def test_signs_and_sizes(self):
        for path in files():
            text = path.read_text(encoding="utf-8")
            self.assertRegex(text, r"\A[ -~\n]*\Z", path.name)
            rows = text.split("\n")
            self.assertLessEqual(len(rows), 400, path.name)
            self.assertLessEqual(max(len(row) for row in rows), 120, path.name)

    def test_sizes_of_functions(self):
        for path, node in every(ast.FunctionDef):
            self.assertLessEqual(node.end_lineno - node.lineno + 1, 40, at(path, node))

    def test_words_that_stand_nowhere(self):
        for path in files():
            for word in re.findall(r"\w+", path.read_text(encoding="utf-8")):
                self.assertNotIn(word, WORDS, path.name)
                self.assertNotRegex(word, "dataclass|overload|contextmanager", path.name)


class ImportsTest(unittest.TestCase):
    def test_only_the_packages_own_names_from_where_they_are_defined(self):
        for path, node in every(ast.ImportFrom):
            self.assertEqual(node.level, 0, at(path, node))
            self.assertRegex(node.module, r"^shopbound\.[a-z]\w*$", at(path, node))
            home = PACKAGE / (node.module.split(".")[1] + ".py")
            for name in node.names:
                self.assertIsNone(name.asname, at(path, node))
                self.assertIn(name.name, top_names(home), at(path, node))

    def test_no_two_files_draw_from_one_another(self):
        draws = {"shopbound." + path.stem: drawn_from(path) for path in files()}

        def follow(name, trail):
            self.assertNotIn(name, trail)
            for other in draws[name]:
                follow(other, trail + [name])

        for name in draws:
            follow(name, [])

    def test_each_import_is_used(self):
        for path in files():
            used = {node.id for node in walk(path) if isinstance(node, ast.Name)}
            for node in walk(path):
                if isinstance(node, ast.ImportFrom):
                    for name in node.names:
                        self.assertIn(name.name, used, at(path, node))


class FormsTest(unittest.TestCase):
    def test_only_forms_that_are_let_by(self):
        for path, node in every(ast.AST):
            self.assertIsInstance(node, NODES, at(path, node))
            self.assertNotIsInstance(node, OUT, path.name)

    def test_the_top_of_a_file(self):
        for path in files():
            body = ast.parse(path.read_text(encoding="utf-8")).body
            self.assertIsInstance(body[0].value.value, str, path.name)
            for node in body[1:]:
                kinds = (ast.ImportFrom, ast.FunctionDef, ast.ClassDef, ast.Assign)
                self.assertIsInstance(node, kinds, at(path, node))
                if isinstance(node, ast.Assign):
                    self.plain_value(path, node.value)
            names = top_names(path)
            self.assertEqual(len(names), len(set(names)), path.name)

    def plain_value(self, path, value):
        plain = (ast.Constant, ast.List, ast.Tuple, ast.Dict, ast.Name, ast.UnaryOp, ast.USub, ast.Load)
        for node in ast.walk(value):
            self.assertIsInstance(node, plain, at(path, value))
            if isinstance(node, ast.Name):
                self.assertIn(node.id, top_names(path), at(path, value))

    def test_functions(self):
        for path, node in every((ast.FunctionDef, ast.Lambda)):
            args = node.args
            self.assertFalse(args.vararg or args.kwarg or args.kwonlyargs or args.posonlyargs, at(path, node))
            if isinstance(node, ast.FunctionDef):
                self.assertEqual(node.decorator_list, [], at(path, node))

    def test_classes(self):
        for path, node in every(ast.ClassDef):
            self.assertEqual((node.decorator_list, node.keywords), ([], []), at(path, node))
            self.assertLessEqual(len(node.bases), 1, at(path, node))
            methods = [part.name for part in node.body if isinstance(part, ast.FunctionDef)]
            self.assertEqual(len(methods), len(set(methods)), at(path, node))
            for part in node.body:
                if not isinstance(part, ast.FunctionDef):
                    self.assertIsInstance(part, (ast.Expr, ast.Pass), at(path, part))

    def test_assignments_have_one_target(self):
        for path, node in every(ast.Assign):
            self.assertEqual(len(node.targets), 1, at(path, node))
            self.assertIsInstance(node.targets[0], (ast.Name, ast.Attribute, ast.Subscript), at(path, node))

    def test_calls_by_themselves_and_docstrings(self):
        for path, node in every(ast.Expr):
            if not isinstance(node.value, ast.Call):
                self.assertIsInstance(node.value.value, str, at(path, node))

    def test_loops_and_tries(self):
        for path, node in every((ast.For, ast.While)):
            self.assertEqual(node.orelse, [], at(path, node))
        for path, node in every(ast.Try):
            self.assertEqual(node.finalbody, [], at(path, node))
        for path, node in every(ast.ExceptHandler):
            self.assertIsNotNone(node.type, at(path, node))

    def test_comprehensions(self):
        for path, node in every(ast.ListComp):
            self.assertEqual(len(node.generators), 1, at(path, node))
            self.assertLessEqual(len(node.generators[0].ifs), 1, at(path, node))

    def test_plain_values(self):
        for path, node in every(ast.Constant):
            self.assertTrue(node.value is None or isinstance(node.value, (int, str)), at(path, node))
            if isinstance(node.value, str):
                self.assertNotIn("%", node.value, at(path, node))

    def test_f_strings(self):
        for path, node in every(ast.FormattedValue):
            self.assertIsInstance(node.value, ast.Name, at(path, node))
            self.assertIsNone(node.format_spec, at(path, node))
            self.assertIn(node.conversion, (-1, ord("r")), at(path, node))

    def test_is_stands_beside_none_and_truths(self):
        for path, node in every(ast.Compare):
            for operator, other in zip(node.ops, node.comparators):
                if isinstance(operator, (ast.Is, ast.IsNot)):
                    self.assertIsInstance(other, ast.Constant, at(path, node))
                    self.assertIn(other.value, (None, True, False), at(path, node))


class NamesTest(unittest.TestCase):
    def test_names_of_pythons_own(self):
        for path, node in every(ast.Name):
            self.assertNotIn(node.id, NOT_AS_NAMES, at(path, node))
            self.assertRegex(node.id, r"^[A-Za-z]\w*$", at(path, node))
            if node.id in vars(builtins):
                self.assertIn(node.id, BUILTINS, at(path, node))
                self.assertIsInstance(node.ctx, ast.Load, at(path, node))

    def test_names_of_parameters_and_defs(self):
        for path, node in every(ast.arg):
            self.assertFalse(node.arg in vars(builtins), at(path, node))
            self.assertRegex(node.arg, r"^[A-Za-z]\w*$", at(path, node))
            self.assertIsNone(node.annotation, at(path, node))
        for path, node in every((ast.FunctionDef, ast.ClassDef)):
            self.assertFalse(node.name in vars(builtins), at(path, node))
            self.assertTrue(node.name in DUNDERS or re.match(r"^[A-Za-z]\w*$", node.name), at(path, node))

    def test_no_local_is_called_like_a_class_or_an_import(self):
        for path in files():
            taken = [part.name for part in walk(path) if isinstance(part, ast.ClassDef)]
            for node in walk(path):
                if isinstance(node, ast.ImportFrom):
                    taken.extend([name.name for name in node.names])
            for node in walk(path):
                if isinstance(node, ast.Name) and isinstance(node.ctx, ast.Store):
                    self.assertNotIn(node.id, taken, at(path, node))
                if isinstance(node, ast.arg):
                    self.assertNotIn(node.arg, taken, at(path, node))

    def test_attributes(self):
        known = set(METHODS) | own_methods() | own_values() | {"__init__"}
        for path, node in every(ast.Attribute):
            self.assertIn(node.attr, known, at(path, node))
            self.assertNotIn(node.attr, ("format", "format_map", "mro", "open", "input", "register"), at(path, node))

    def test_no_name_is_a_method_and_a_value(self):
        self.assertEqual(own_methods() & own_values(), set())
        self.assertEqual(own_values() & set(NOT_AS_VALUES.split()), set())

    def test_sets_stand_where_they_are_let(self):
        for path in files():
            tree = ast.parse(path.read_text(encoding="utf-8"))
            good = set()
            for node in ast.walk(tree):
                if isinstance(node, ast.Call) and isinstance(node.func, ast.Name) and node.func.id in ("len", "sorted"):
                    good.update(id(part) for part in node.args)
                if isinstance(node, ast.Compare):
                    good.update(id(part) for part in [node.left] + node.comparators)
            for node in ast.walk(tree):
                if isinstance(node, ast.Call) and isinstance(node.func, ast.Name) and node.func.id == "set":
                    self.assertIn(id(node), good, at(path, node))


class CallsTest(unittest.TestCase):
    KEYWORDS = {
        "sorted": ("key", "reverse"), "min": ("key", "default"), "max": ("key", "default"), "sum": ("start",),
        "enumerate": ("start",), "zip": ("strict",),
    }

    def test_keywords(self):
        own = own_methods() | {node.name for _, node in every(ast.FunctionDef)}
        for path, node in every(ast.Call):
            called = node.func.id if isinstance(node.func, ast.Name) else node.func.attr
            for keyword in node.keywords:
                self.assertTrue(called in own or keyword.arg in self.KEYWORDS.get(called, ()), at(path, node))

    def test_methods_and_pythons_own_are_called_where_they_stand(self):
        methods = own_methods() | set(METHODS)
        for path in files():
            tree = ast.parse(path.read_text(encoding="utf-8"))
            let_by = set()
            for node in ast.walk(tree):
                if isinstance(node, ast.Call):
                    let_by.add(id(node.func))
                    let_by.update(id(keyword.value) for keyword in node.keywords if keyword.arg == "key")
            for node in ast.walk(tree):
                if isinstance(node, ast.Attribute) and node.attr in methods:
                    self.assertIn(id(node), let_by, at(path, node))
                if isinstance(node, ast.Name) and node.id in BUILTINS and id(node) not in let_by:
                    self.assertIn(node.id, ERRORS + "int str bool list tuple dict".split(), at(path, node))

    def test_what_is_walked_at_once_is_not_kept(self):
        walked = ("zip", "enumerate", "reversed", "range", "items", "keys", "values")
        for path, node in every((ast.Assign, ast.Return)):
            if isinstance(node.value, ast.Call):
                called = node.value.func
                name = called.id if isinstance(called, ast.Name) else called.attr
                self.assertNotIn(name, walked, at(path, node))

    def test_what_a_loop_walks_is_not_changed_in_it(self):
        changes = "append clear extend insert pop remove reverse setdefault update".split()
        for path, loop in every(ast.For):
            walked = {ast.dump(part) for part in ast.walk(loop.iter) if isinstance(part, (ast.Name, ast.Attribute))}
            for part in loop.body:
                for node in ast.walk(part):
                    if isinstance(node, ast.Call) and isinstance(node.func, ast.Attribute) and node.func.attr in changes:
                        self.assertNotIn(ast.dump(node.func.value), walked, at(path, node))

    def test_errors_are_made_where_they_are_raised(self):
        for path, node in every(ast.Raise):
            self.assertIsInstance(node.exc, ast.Call, at(path, node))

    def test_no_power_but_a_written_one(self):
        for path, node in every(ast.BinOp):
            if isinstance(node.op, ast.Pow):
                self.assertIsInstance(node.right, ast.Constant, at(path, node))


if __name__ == "__main__":
    unittest.main()

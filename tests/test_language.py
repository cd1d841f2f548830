"""The package keeps to the part of Python that LANGUAGE.md tells: those of its rules that are judged easily here."""

import ast
import builtins
import re
import unittest
from pathlib import Path

PACKAGE = Path(__file__).resolve().parent.parent / "cornerpiles"

OWN_NAMES = set("""len range enumerate zip min max sum abs sorted reversed int str bool list tuple dict set frozenset
    isinstance ord repr any all divmod Exception ValueError TypeError KeyError IndexError LookupError
    ZeroDivisionError ArithmeticError OverflowError RuntimeError NotImplementedError AttributeError
    StopIteration""".split())

OWN_METHODS = set("""append clear copy count endswith extend find get index insert isalnum isalpha isdigit islower
    isspace isupper items join keys ljust lower lstrip partition pop remove replace reverse rfind rjust rpartition
    rsplit rstrip setdefault split splitlines startswith strip update upper values zfill bit_length""".split())

WORDS_NOT_USED = set("""type typing typing_extensions enum Enum IntEnum StrEnum Flag IntFlag Generic Protocol ABC
    ABCMeta namedtuple NamedTuple TypedDict TYPE_CHECKING abstractmethod""".split())

PARTS_NOT_USED = ["dataclass", "overload", "contextmanager"]

VALUES_NOT_USED = {"sort", "args", "encode", "format", "mro", "elements", "register", "open", "input"}

# What is walked on the spot, and what walks it.
WALKED = ["zip", "enumerate", "reversed", "range", "items", "keys", "values"]
WALKERS = ["list", "tuple", "dict", "sorted", "sum", "any", "all", "enumerate", "zip", "min", "max"]

METHODS_WITH_UNDERSCORES = ["__init__", "__eq__", "__repr__", "__str__", "__len__"]

NODES = set("""Module ImportFrom alias FunctionDef arguments arg ClassDef Lambda Assign AugAssign If While For Return
    Break Continue Pass Raise Try ExceptHandler Expr Call keyword Name Attribute Subscript Slice Constant List Tuple
    Dict Set BinOp UnaryOp BoolOp Compare IfExp ListComp comprehension JoinedStr FormattedValue Load Store
    Add Sub Mult FloorDiv Mod Pow BitAnd BitOr BitXor LShift RShift Invert USub UAdd Not And Or
    Eq NotEq Lt LtE Gt GtE Is IsNot In NotIn""".split())


FILES = {path.stem: ast.parse(path.read_text(encoding="ascii")) for path in sorted(PACKAGE.glob("*.py"))}


def walk_all(kinds):
    return [(stem, node) for stem, tree in FILES.items() for node in ast.walk(tree) if isinstance(node, kinds)]


class Files(unittest.TestCase):
    def test_nothing_but_plain_files(self):
        for path in PACKAGE.iterdir():
            if path.name != "__pycache__":
                self.assertRegex(path.name, r"\A([a-z][a-z0-9_]*|__init__|__main__)\.py\Z")

    def test_signs_and_sizes(self):
        for path in PACKAGE.glob("*.py"):
            text = path.read_bytes().decode("ascii")
            self.assertRegex(text, r"\A[ -~\n]*\Z")
            self.assertLessEqual(len(text.splitlines()), 400)
            self.assertLessEqual(max(map(len, text.splitlines()), default=0), 120)

    def test_words_not_used(self):
        for path in PACKAGE.glob("*.py"):
            text = path.read_text(encoding="ascii")
            self.assertFalse(WORDS_NOT_USED & set(re.findall(r"\w+", text)), path.name)
            self.assertFalse([part for part in PARTS_NOT_USED if part in text], path.name)


class Forms(unittest.TestCase):
    def test_only_the_nodes_of_the_language(self):
        for stem, node in walk_all(ast.AST):
            self.assertIn(type(node).__name__, NODES, (stem, getattr(node, "lineno", 0)))

    def test_functions(self):
        for stem, node in walk_all(ast.FunctionDef):
            place = (stem, node.lineno)
            self.assertLessEqual(node.end_lineno - node.lineno + 1, 40, place)
            self.assertFalse(node.decorator_list or node.args.vararg or node.args.kwarg or node.args.kwonlyargs
                             or node.args.posonlyargs, place)
            self.assertIsNone(node.returns, place)
            self.assertFalse([arg for arg in node.args.args if arg.annotation], place)

    def test_classes(self):
        for stem, node in walk_all(ast.ClassDef):
            place = (stem, node.lineno)
            self.assertIn(node, FILES[stem].body, place)
            self.assertFalse(node.decorator_list or node.keywords or len(node.bases) > 1, place)
            self.assertFalse([part for part in node.body if not isinstance(part, (ast.FunctionDef, ast.Pass))], place)

    def test_statements(self):
        for stem, node in walk_all((ast.Assign, ast.For, ast.While, ast.Try, ast.Raise, ast.ExceptHandler)):
            place = (stem, node.lineno)
            if isinstance(node, ast.Assign):
                self.assertEqual(len(node.targets), 1, place)
            elif isinstance(node, (ast.For, ast.While)):
                self.assertFalse(node.orelse, place)
            elif isinstance(node, ast.Try):
                self.assertFalse(node.finalbody, place)
            elif isinstance(node, ast.Raise):
                self.assertIsInstance(node.exc, ast.Call, place)
            else:
                self.assertIsNotNone(node.type, place)

    def test_calls_stand_by_themselves_and_nothing_else(self):
        for stem, node in walk_all(ast.Expr):
            is_first = FILES[stem].body[0] == node
            self.assertTrue(is_first or isinstance(node.value, ast.Call), (stem, node.lineno))

    def test_values(self):
        for stem, node in walk_all((ast.Constant, ast.ListComp, ast.Compare)):
            place = (stem, node.lineno)
            if isinstance(node, ast.Constant):
                self.assertIsInstance(node.value, (int, str, type(None)), place)
                self.assertNotIn("%", str(node.value), place)
            elif isinstance(node, ast.ListComp):
                self.assertEqual(len(node.generators), 1, place)
                self.assertLessEqual(len(node.generators[0].ifs), 1, place)
            elif isinstance(node.ops[0], (ast.Is, ast.IsNot)):
                self.assertIn(getattr(node.comparators[0], "value", 0), [None, True, False], place)


class Names(unittest.TestCase):
    def test_names_are_plain(self):
        names = [(stem, node.id) for stem, node in walk_all(ast.Name)]
        names += [(stem, node.arg) for stem, node in walk_all(ast.arg)]
        names += [(stem, node.attr) for stem, node in walk_all(ast.Attribute)]
        names += [(stem, node.name) for stem, node in walk_all((ast.FunctionDef, ast.ClassDef))]
        for stem, name in names:
            if name not in METHODS_WITH_UNDERSCORES:
                self.assertRegex(name, r"\A[A-Za-z][A-Za-z0-9_]*\Z", stem)

    def test_of_pythons_own_names_only_those_told_and_none_given_another_meaning(self):
        for stem, node in walk_all(ast.Name):
            if hasattr(builtins, node.id):
                self.assertIn(node.id, OWN_NAMES, (stem, node.lineno))
                self.assertIsInstance(node.ctx, ast.Load, (stem, node.lineno))
        for stem, node in walk_all((ast.arg, ast.FunctionDef, ast.ClassDef)):
            name = node.arg if isinstance(node, ast.arg) else node.name
            self.assertFalse(hasattr(builtins, name) and name not in METHODS_WITH_UNDERSCORES, (stem, node.lineno))

    def test_no_local_is_called_like_an_import_or_a_class_of_its_file(self):
        for stem, tree in FILES.items():
            taken = {part.name for part in tree.body if isinstance(part, ast.ClassDef)}
            for part in tree.body:
                if isinstance(part, ast.ImportFrom):
                    taken |= {name.name for name in part.names}
            bound = {node.arg for node in ast.walk(tree) if isinstance(node, ast.arg)}
            bound |= {node.id for node in ast.walk(tree)
                      if isinstance(node, ast.Name) and isinstance(node.ctx, ast.Store)}
            self.assertFalse(taken & bound, stem)

    def test_methods_are_those_told_or_the_programs_own(self):
        own = {node.name for stem, node in walk_all(ast.FunctionDef)}
        for stem, node in walk_all(ast.Call):
            if isinstance(node.func, ast.Attribute):
                self.assertIn(node.func.attr, OWN_METHODS | own, (stem, node.lineno))


    def test_no_name_is_a_method_and_a_value(self):
        methods = {part.name for stem, node in walk_all(ast.ClassDef) for part in node.body
                   if isinstance(part, ast.FunctionDef)}
        for stem, node in walk_all(ast.Attribute):
            if isinstance(node.ctx, ast.Store):
                self.assertNotIn(node.attr, methods | OWN_METHODS | VALUES_NOT_USED, (stem, node.lineno))

    def test_each_name_of_a_files_top_is_bound_once(self):
        for stem, tree in FILES.items():
            bound = [part.name for part in tree.body if isinstance(part, (ast.FunctionDef, ast.ClassDef))]
            bound += [part.targets[0].id for part in tree.body if isinstance(part, ast.Assign)]
            bound += [name.name for part in tree.body if isinstance(part, ast.ImportFrom) for name in part.names]
            self.assertEqual(len(set(bound)), len(bound), stem)


class Kept(unittest.TestCase):
    def test_values_of_a_files_top_are_plain_and_hold_no_list(self):
        for stem, tree in FILES.items():
            for part in tree.body:
                self.assertIsInstance(part, (ast.Expr, ast.ImportFrom, ast.FunctionDef, ast.ClassDef, ast.Assign), stem)
                if isinstance(part, ast.Assign):
                    inner = [node for child in ast.iter_child_nodes(part.value) for node in ast.walk(child)]
                    for node in inner:
                        self.assertIsInstance(node, (ast.Constant, ast.Name, ast.Tuple, ast.Load), (stem, part.lineno))

    def test_walked_at_once(self):
        for stem, tree in FILES.items():
            allowed = set()
            for node in ast.walk(tree):
                if isinstance(node, (ast.For, ast.comprehension)):
                    allowed.add(node.iter)
                elif isinstance(node, ast.Call) and isinstance(node.func, ast.Name) and node.func.id in WALKERS:
                    allowed.update(node.args[:1])
            for node in ast.walk(tree):
                if isinstance(node, ast.Call) and getattr(node.func, "id", getattr(node.func, "attr", "")) in WALKED:
                    self.assertIn(node, allowed, (stem, node.lineno))

    def test_no_error_of_pythons_own_is_taken(self):
        own = [node.name for stem, node in walk_all(ast.ClassDef)]
        for stem, node in walk_all(ast.ExceptHandler):
            self.assertIn(node.type.id, own, (stem, node.lineno))


class Imports(unittest.TestCase):
    def test_each_is_from_the_file_that_defines_the_name(self):
        for stem, node in walk_all(ast.ImportFrom):
            place = (stem, node.lineno)
            self.assertIn(node, FILES[stem].body, place)
            self.assertEqual((node.module.partition(".")[0], node.level), ("cornerpiles", 0), place)
            origin = FILES[node.module.partition(".")[2]].body
            defined = [part.name for part in origin if isinstance(part, (ast.FunctionDef, ast.ClassDef))]
            defined += [part.targets[0].id for part in origin if isinstance(part, ast.Assign)]
            for name in node.names:
                self.assertIn(name.name, defined, place)
                self.assertIsNone(name.asname, place)

    def test_no_two_files_draw_from_one_another(self):
        drawn = {stem: set() for stem in FILES}
        for stem, node in walk_all(ast.ImportFrom):
            drawn[stem].add(node.module.partition(".")[2])
        while drawn:
            free = [stem for stem in drawn if not drawn[stem] & set(drawn)]
            self.assertTrue(free, drawn)
            drawn = {stem: drawn[stem] for stem in drawn if stem not in free}


if __name__ == "__main__":
    unittest.main()

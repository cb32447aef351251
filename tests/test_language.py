"""The package keeps to the subset of the language that it is written in, and to its interface."""

import ast
import builtins
import inspect
import pathlib
import re
import unittest

from wirenames.desk import Desk
from wirenames.looker import holds
from wirenames.papers import known_paper, one_paper, weaker_paper, weaker_rule
from wirenames.scripts import gone_along

PACKAGE = pathlib.Path(__file__).resolve().parent.parent / "wirenames"
FILES = sorted(path for path in PACKAGE.rglob("*") if path.is_file() and "__pycache__" not in path.parts)

BUILTINS = set(
    "len range enumerate zip min max sum abs sorted reversed int str bool bytes list tuple dict set frozenset "
    "isinstance ord repr any all divmod super property staticmethod classmethod iter next Exception ValueError "
    "TypeError KeyError IndexError LookupError ZeroDivisionError ArithmeticError OverflowError RuntimeError "
    "NotImplementedError AttributeError StopIteration NotImplemented".split()
)
BUILTIN_METHODS = set(
    "append clear copy count endswith extend find get index insert isalnum isalpha isdigit islower isspace isupper "
    "items join keys ljust lower lstrip partition pop remove replace reverse rfind rjust rpartition rsplit rstrip "
    "setdefault split splitlines startswith strip update upper values zfill bit_length".split()
)
WORDS = (
    "type typing typing_extensions enum Enum IntEnum StrEnum Flag IntFlag Generic Protocol ABC ABCMeta namedtuple "
    "NamedTuple TypedDict TYPE_CHECKING abstractmethod"
).split()
NEVER = set("register mro elements open input law version_info with_traceback add_note".split())
DUNDERS = {"__init__", "__eq__", "__repr__", "__str__", "__len__"}
FORBIDDEN = (ast.Global, ast.AsyncFunctionDef, ast.Await, ast.Import, ast.Yield, ast.YieldFrom, ast.Div, ast.NamedExpr)

INTERFACE = {
    "errors": (
        "WireError NoName NoMark NoTries NoBounds NoRule NoHands NoNext NoLess NoPaper NoSaying TooMany Claimed "
        "NoClaim SameWire NotEmpty NoScript Early Came Owed Due NoHand NoWire NotOn IsOn NoLetter"
    ),
    "names": "is_name next_name is_greater",
    "rules": "Bounds Rule claiming_time asking_time mending_time fits is_enough least_rule",
    "wires": "Wires",
    "scripts": "gone_along",
    "papers": "weaker_rule weaker_paper one_paper known_paper",
    "looker": "holds",
    "desk": "Desk",
}
WIRES = (
    "come go meet part claim drop ask ask_all tick hand_over lose way now hands_on claims_of who_holds doubles "
    "known_of all_known asking_of notes noted script __len__"
).split()


def trees():
    return {path.stem: ast.parse(path.read_text()) for path in FILES}


def nodes(kind):
    for stem, tree in trees().items():
        for node in ast.walk(tree):
            if isinstance(node, kind):
                yield stem, node


class Files(unittest.TestCase):
    def test_files_and_signs(self):
        self.assertTrue((PACKAGE / "__init__.py").is_file())
        for path in FILES:
            self.assertEqual(path.parent, PACKAGE)
            self.assertRegex(path.name, r"^[a-z_0-9]+\.py$")
            self.assertRegex(path.read_text(), r"\A[ -~\n]*\Z", path.name)

    def test_sizes(self):
        for path in FILES:
            lines = path.read_text().splitlines()
            self.assertLessEqual(len(lines), 399, path.name)
            self.assertLessEqual(max(map(len, lines)), 120, path.name)
        for stem, node in nodes(ast.FunctionDef):
            self.assertLessEqual(node.end_lineno - node.lineno + 1, 40, (stem, node.name))

    def test_words_that_are_not_used(self):
        for path in FILES:
            text = path.read_text()
            for word in WORDS:
                self.assertIsNone(re.search(rf"\b{word}\b", text), (path.name, word))
            self.assertIsNone(re.search("dataclass|overload|contextmanager", text), path.name)


class Names(unittest.TestCase):
    def test_imports_name_the_file_that_defines_the_name(self):
        defined = {
            stem: {node.name for node in tree.body if isinstance(node, (ast.FunctionDef, ast.ClassDef))}
            | {node.targets[0].id for node in tree.body if isinstance(node, ast.Assign)}
            for stem, tree in trees().items()
        }
        for stem, node in nodes(ast.ImportFrom):
            self.assertEqual(node.level, 0)
            package, _, module = node.module.partition(".")
            self.assertEqual(package, "wirenames", stem)
            for alias in node.names:
                self.assertIn(alias.name, defined[module], stem)
                self.assertIsNone(alias.asname)

    def test_modules_hold_nothing_but_what_may_stand_there(self):
        for stem, tree in trees().items():
            bound = []
            for node in tree.body:
                self.assertIsInstance(node, (ast.Expr, ast.ImportFrom, ast.FunctionDef, ast.ClassDef, ast.Assign), stem)
                if isinstance(node, (ast.FunctionDef, ast.ClassDef)):
                    bound.append(node.name)
                elif isinstance(node, ast.ImportFrom):
                    bound += [alias.name for alias in node.names]
                elif isinstance(node, ast.Assign):
                    bound.append(node.targets[0].id)
            self.assertEqual(len(bound), len(set(bound)), stem)

    def test_no_name_hides_a_builtin_an_import_or_a_class(self):
        for stem, tree in trees().items():
            taken = {alias.name for node in tree.body if isinstance(node, ast.ImportFrom) for alias in node.names}
            taken |= {node.name for node in tree.body if isinstance(node, ast.ClassDef)}
            for node in ast.walk(tree):
                name = None
                if isinstance(node, ast.arg):
                    name = node.arg
                elif isinstance(node, ast.Name) and isinstance(node.ctx, ast.Store):
                    name = node.id
                if name is not None:
                    self.assertNotIn(name, taken, stem)
                    self.assertFalse(hasattr(builtins, name), (stem, name))

    def test_names_are_plain(self):
        for stem, node in nodes((ast.Name, ast.arg, ast.Attribute, ast.FunctionDef, ast.ClassDef)):
            name = getattr(node, "id", None) or getattr(node, "arg", None)
            name = name or getattr(node, "attr", None) or getattr(node, "name", None)
            self.assertNotIn(name, NEVER, stem)
            if name not in DUNDERS:
                self.assertFalse(name.startswith("_"), (stem, name))

    def test_builtins_are_those_that_may_be_used(self):
        for stem, node in nodes(ast.Name):
            if hasattr(builtins, node.id):
                self.assertIn(node.id, BUILTINS, stem)

    def test_no_name_is_a_method_and_an_attribute(self):
        methods = {
            node.name for _, owner in nodes(ast.ClassDef) for node in owner.body if isinstance(node, ast.FunctionDef)
        }
        attributes = {node.attr for _, node in nodes(ast.Attribute) if isinstance(node.ctx, ast.Store)}
        self.assertEqual(methods & attributes, set())
        for _, node in nodes(ast.Attribute):
            self.assertIn(node.attr, methods | attributes | BUILTIN_METHODS)
        for name in (methods - DUNDERS) | attributes:
            for kind in (str, int, list, dict, set, bytes, tuple):
                self.assertFalse(hasattr(kind, name), name)


class Statements(unittest.TestCase):
    def test_what_is_left_out(self):
        for stem, node in nodes(FORBIDDEN):
            self.fail((stem, type(node).__name__, getattr(node, "lineno", None)))

    def test_is_stands_with_none_and_truths_alone(self):
        for stem, node in nodes(ast.Compare):
            for sign, right in zip(node.ops, node.comparators):
                if isinstance(sign, (ast.Is, ast.IsNot)):
                    self.assertIsInstance(right, ast.Constant, stem)
                    self.assertIn(right.value, (None, True, False), stem)

    def test_no_generators_beside_classes_that_compare(self):
        for stem, node in nodes(ast.GeneratorExp):
            self.fail((stem, node.lineno))

    def test_constants(self):
        for stem, node in nodes(ast.Constant):
            self.assertNotIsInstance(node.value, (float, complex), stem)
            if isinstance(node.value, str):
                self.assertNotIn("%", node.value, stem)

    def test_errors_are_made_on_the_spot(self):
        for stem, node in nodes(ast.Raise):
            self.assertIsInstance(node.exc, ast.Call, stem)
            self.assertIsInstance(node.exc.func, ast.Name, stem)

    def test_patterns_capture_names_that_mean_nothing_else(self):
        for stem, owner in nodes(ast.FunctionDef):
            matches = [node for node in ast.walk(owner) if isinstance(node, ast.Match)]
            for case in [case for match in matches for case in match.cases]:
                parts = list(ast.walk(case.pattern))
                names = [part.name for part in parts if isinstance(part, (ast.MatchAs, ast.MatchStar)) and part.name]
                self.assertEqual(len(names), len(set(names)), (stem, owner.name))
                given = {arg.arg for arg in owner.args.args + owner.args.kwonlyargs}
                stored = [node for node in ast.walk(owner) if isinstance(getattr(node, "ctx", None), ast.Store)]
                bound = {node.id for node in stored if isinstance(node, ast.Name)}
                self.assertEqual(set(names) & (given | bound), set(), (stem, owner.name))
                for part in parts:
                    self.assertNotIsInstance(part, (ast.MatchClass, ast.MatchMapping), stem)

    def test_classes_that_compare_do_so_part_by_part(self):
        """Else no literal may stand within the sequence of a pattern."""
        for stem, node in nodes(ast.FunctionDef):
            if node.name == "__eq__":
                self.assertEqual([type(row) for row in node.body], [ast.Return], stem)
                text = ast.unparse(node.body[0].value).replace(" and (", " and ").replace(")", "")
                first, *parts = text.split(" and ")
                self.assertRegex(first, r"\Aisinstance\(other, \w+\Z", stem)
                for part in parts:
                    self.assertRegex(part, r"\Aself\.(\w+) == other\.\1\Z", stem)

    def test_no_two_files_import_from_each_other(self):
        needs = {stem: set() for stem in trees()}
        for stem, node in nodes(ast.ImportFrom):
            needs[stem].add(node.module.partition(".")[2])
        while needs:
            free = [stem for stem in needs if not needs[stem] & set(needs)]
            self.assertTrue(free, sorted(needs))
            for stem in free:
                del needs[stem]

    def test_no_annotations_and_no_decorators(self):
        for stem, node in nodes(ast.FunctionDef):
            self.assertIsNone(node.returns, stem)
            self.assertEqual(node.decorator_list, [], stem)
            for given in node.args.args + node.args.kwonlyargs:
                self.assertIsNone(given.annotation, stem)


class Interface(unittest.TestCase):
    def test_each_thing_is_defined_in_its_file(self):
        for stem, names in INTERFACE.items():
            body = trees()[stem].body
            defined = {node.name for node in body if isinstance(node, (ast.FunctionDef, ast.ClassDef))}
            for name in names.split():
                self.assertIn(name, defined, stem)

    def test_each_method_is_defined_in_its_class(self):
        for stem, names in (("wires", WIRES), ("desk", ["__init__", "say"])):
            owner = [node for node in trees()[stem].body if isinstance(node, ast.ClassDef)][0]
            methods = {node.name for node in owner.body if isinstance(node, ast.FunctionDef)}
            for name in names:
                self.assertIn(name, methods)

    def test_parameters_of_scripts_papers_the_looker_and_the_desk(self):
        for call, wanted in (
            (gone_along, "(bounds, rule, script)"),
            (weaker_rule, "(bounds, word, *, gap=1)"),
            (weaker_paper, "(bounds, word, *, gap=1)"),
            (one_paper, "(wires)"),
            (known_paper, "(wires, hand, name)"),
            (holds, "(paper)"),
            (Desk, "(bounds, rule)"),
            (Desk.say, "(self, row)"),
        ):
            self.assertEqual(str(inspect.signature(call)), wanted, call.__name__)


if __name__ == "__main__":
    unittest.main()

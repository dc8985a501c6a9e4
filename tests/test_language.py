"""The rules of ../shared/LANGUAGE.md that can be asked of a file row by row."""

import ast
import builtins
import re
import unittest
from pathlib import Path

PACKAGE = Path(__file__).resolve().parent.parent / "looseorder"
ORDER = ("errors names rulings stocks frames tongues patterns sayings speaking turning tonguetext sayingtext heardtext "
         "shown flat sayable heard readings orderings coincide counts rings closed books orders chains "
         "endings needed freest trades doubts agreeing articles swallowing rolelots stillsure blocks nested waiting "
         "longsayings habits safety foreign meeting wearing changes ages helps elders lessons learning wishes mends "
         "bench").split()
BUILTINS = set("len range enumerate zip min max sum abs sorted reversed int str bool bytes list tuple dict set "
               "frozenset isinstance ord repr any all divmod iter next super map ValueError property".split())
METHODS = set("append clear copy count endswith extend find get index insert isalnum isalpha isdigit islower isspace "
              "isupper items join keys ljust lower lstrip partition pop remove replace reverse rfind rjust rpartition "
              "rsplit rstrip setdefault split splitlines startswith strip update upper values zfill bit_length "
              "removeprefix removesuffix add discard".split())
BARRED = ("type typing typing_extensions enum Enum IntEnum StrEnum Flag IntFlag Generic Protocol ABC ABCMeta "
          "namedtuple NamedTuple TypedDict TYPE_CHECKING abstractmethod").split()
UNUSED = set("register mro elements open input law version_info with_traceback add_note attrgetter breakpoint "
             "builtins compile copyright credits delattr dir eval exec exit gc getattr globals hasattr help id "
             "importlib license locals methodcaller os quit setattr type vars sys".split())
STATEMENTS = (ast.Import, ast.Global, ast.AsyncFunctionDef, ast.AsyncFor, ast.AsyncWith, ast.Await, ast.AnnAssign,
              ast.Assert, ast.Match, ast.Delete, ast.Nonlocal, ast.Set)
WHOLE = ("any", "all", "min", "max", "sum", "sorted")


def files():
    return sorted(PACKAGE.glob("*.py"))


def trees():
    return [(path, ast.parse(path.read_text())) for path in files()]


def nodes(kind):
    return [(path, node) for path, tree in trees() for node in ast.walk(tree) if isinstance(node, kind)]


class LanguageTest(unittest.TestCase):
    def no(self, found, rule):
        self.assertEqual([f"{path.name}:{getattr(node, 'lineno', node)}" for path, node in found], [], rule)

    def test_files(self):
        names = {path.name for path in PACKAGE.iterdir() if path.name != "__pycache__"}
        self.assertTrue(all(re.fullmatch(r"[a-z_]+\.py", name) for name in names), "L1")
        self.assertEqual(names, {f"{name}.py" for name in [*ORDER, "__init__"]})

    def test_sizes_and_characters(self):
        for path in files():
            rows = path.read_text().split("\n")
            self.assertLessEqual(len(rows), 400, path.name)
            self.no([(path, at + 1) for at, row in enumerate(rows) if len(row) > 120], "L10")
            self.assertRegex(path.read_text(), r"\A[\n -~]*\Z")
        functions = nodes(ast.FunctionDef)
        self.no([found for found in functions if found[1].end_lineno - found[1].lineno >= 40], "L10")

    def test_imports(self):
        for path, tree in trees():
            for node in ast.walk(tree):
                if not isinstance(node, ast.ImportFrom):
                    continue
                self.assertIn(node, tree.body, "L2")
                package, name = node.module.split(".")
                self.assertEqual((package, node.level), ("looseorder", 0), "L2")
                self.assertLess(ORDER.index(name), ORDER.index(path.stem), "L16: only files that are written before")
                self.assertTrue(all(alias.asname is None for alias in node.names), "L2")
                self.check_source(name, [alias.name for alias in node.names])

    def check_source(self, name, wanted):
        tree = ast.parse((PACKAGE / f"{name}.py").read_text())
        made = [node.name for node in tree.body if isinstance(node, (ast.FunctionDef, ast.ClassDef))]
        made += [node.targets[0].id for node in tree.body if isinstance(node, ast.Assign)]
        self.assertEqual([name for name in wanted if name not in made], [], "L16")

    def test_all_imports_are_used(self):
        for path, tree in trees():
            used = {node.id for node in ast.walk(tree) if isinstance(node, ast.Name)}
            brought = [alias.name for node in tree.body if isinstance(node, ast.ImportFrom) for alias in node.names]
            self.assertEqual([name for name in brought if name not in used], [], path.name)
            self.assertEqual(len(brought), len(set(brought)), path.name)

    def test_module_level(self):
        kinds = (ast.ImportFrom, ast.FunctionDef, ast.ClassDef, ast.Assign)
        for path, tree in trees():
            self.assertIsNotNone(ast.get_docstring(tree), path.name)
            self.no([(path, node) for node in tree.body[1:] if not isinstance(node, kinds)], "L3")

    def test_statements(self):
        self.no(nodes(STATEMENTS), "L6, L21, L24")
        self.no(nodes(ast.Lambda), "none is needed")
        self.no([(p, n) for p, n in nodes(ast.FunctionDef) if [d for d in n.decorator_list
                 if not (isinstance(d, ast.Name) and d.id == "property")]], "L4")
        self.no([(p, n) for p, n in nodes(ast.ClassDef) if n.decorator_list or n.keywords], "L5")
        self.no([(p, n) for p, n in nodes(ast.FunctionDef) if n.returns or [a for a in n.args.args if a.annotation]],
                "L21")

    def test_expressions(self):
        self.no([(p, n) for p, n in nodes(ast.Constant) if isinstance(n.value, (float, complex))], "L7")
        self.no([(p, n) for p, n in nodes(ast.Constant) if isinstance(n.value, str) and "%" in n.value], "L27")
        self.no([(p, n) for p, n in nodes((ast.BinOp, ast.AugAssign)) if isinstance(n.op, (ast.Div, ast.Pow))], "L27")
        self.no([(p, n) for p, n in nodes(ast.Compare) if isinstance(n.ops[0], (ast.Is, ast.IsNot))
                 and not (isinstance(n.comparators[0], ast.Constant) and n.comparators[0].value is None)], "L20")

    def test_generator_expressions(self):
        """Classes have __eq__, so L7 lets none in any, all, min, max, sum and sorted."""
        self.no([(p, n) for p, n in nodes(ast.Call) if isinstance(n.func, ast.Name) and n.func.id in WHOLE
                 and [a for a in n.args if isinstance(a, ast.GeneratorExp)]], "L7")

    def test_what_is_iterated_at_once(self):
        lazy = ("zip", "enumerate", "reversed", "range", "map")
        for path, tree in trees():
            for node in ast.walk(tree):
                if isinstance(node, (ast.Assign, ast.Return, ast.Starred)) and isinstance(node.value, ast.Call) \
                        and isinstance(node.value.func, ast.Name):
                    self.assertNotIn(node.value.func.id, lazy, f"L23 {path.name}:{node.lineno}")

    def test_generators(self):
        made = {}
        for path, node in nodes(ast.FunctionDef):
            is_one = any(isinstance(inner, (ast.Yield, ast.YieldFrom)) for inner in ast.walk(node))
            made.setdefault(node.name, []).append(is_one)
        for name, kinds in made.items():
            self.assertTrue(kinds == [True] or True not in kinds, f"L23: {name}")
        lazy = [name for name, kinds in made.items() if kinds == [True]]
        for path, node in nodes((ast.Assign, ast.Return, ast.Starred)):
            if isinstance(node.value, ast.Call) and isinstance(node.value.func, ast.Name):
                self.assertNotIn(node.value.func.id, lazy, f"L23 {path.name}:{node.lineno}")
        self.no([(p, n) for p, n in nodes(ast.Call) if called(n) in lazy and not all(is_plain(a) for a in n.args)],
                "L23: beside a generator stand only names, attributes and literals")

    def test_names(self):
        own = set(dir(builtins))
        for path, tree in trees():
            brought = {alias.name for node in tree.body if isinstance(node, ast.ImportFrom) for alias in node.names}
            brought |= {node.name for node in tree.body if isinstance(node, ast.ClassDef)}
            for node in ast.walk(tree):
                bound = []
                if isinstance(node, ast.Name) and isinstance(node.ctx, ast.Store):
                    bound = [node.id]
                elif isinstance(node, ast.arg):
                    bound = [node.arg]
                for name in bound:
                    self.assertNotIn(name, brought | own | UNUSED, f"L15 {path.name}:{node.lineno}")
                if isinstance(node, ast.Name) and isinstance(node.ctx, ast.Load):
                    self.assertNotEqual(node.id, "_", "L12")
                    self.assertTrue(node.id not in own or node.id in BUILTINS, f"L8 {path.name}:{node.lineno}")
                if isinstance(node, (ast.FunctionDef, ast.ClassDef)):
                    self.assertNotIn(node.name, own | UNUSED, "L15")

    def test_methods(self):
        own = {node.name for _, node in nodes(ast.FunctionDef)} | {"__init__"}
        for path, node in nodes(ast.Call):
            if isinstance(node.func, ast.Attribute):
                self.assertIn(node.func.attr, own | METHODS, f"L25 {path.name}:{node.lineno}")

    def test_methods_of_classes(self):
        allowed = {"__init__", "__eq__", "__len__", "__iter__", "__enter__", "__exit__"}
        for _, node in nodes(ast.ClassDef):
            for method in node.body:
                if isinstance(method, ast.FunctionDef) and method.name.startswith("__"):
                    self.assertIn(method.name, allowed, "L5")
        for path, node in nodes(ast.FunctionDef):
            if node.name == "__eq__":
                self.assertTrue(len(node.body) == 1 and isinstance(node.body[0], ast.Return), "L6 Match")

    def test_words(self):
        for path in files():
            code = ast.unparse(without_docstrings(ast.parse(path.read_text())))
            for word in BARRED:
                self.assertIsNone(re.search(rf"\b{word}\b", code), f"L17 {path.name}: {word}")
            for word in ("dataclass", "overload", "contextmanager", "_wall", "_WallAttr"):
                self.assertNotIn(word, code, f"L17 {path.name}")

    def test_sets_are_kept_as_told(self):
        for path, node in nodes((ast.Assign, ast.Return)):
            if isinstance(node.value, ast.SetComp):
                self.fail(f"L24 {path.name}:{node.lineno}")


def called(node):
    """The name of the function or method that is called."""
    return node.func.id if isinstance(node.func, ast.Name) else getattr(node.func, "attr", None)


def is_plain(node):
    while isinstance(node, ast.Attribute):
        node = node.value
    return isinstance(node, (ast.Name, ast.Constant))


def without_docstrings(tree):
    for node in ast.walk(tree):
        if isinstance(node, (ast.Module, ast.ClassDef, ast.FunctionDef)) and ast.get_docstring(node) is not None:
            node.body = node.body[1:] or [ast.Pass()]
    return tree


if __name__ == "__main__":
    unittest.main()

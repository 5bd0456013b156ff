"""That the package keeps to the small part of Python that it is to be written in."""

import ast
import builtins
import inspect
import pathlib
import re
import sys
import unittest

from deskcalls import fill, find, keep, line, proof, rename, run, written

PACKAGE = pathlib.Path(__file__).resolve().parent.parent / "countproofs"
FILES = sorted(path for path in PACKAGE.rglob("*") if path.is_file() and "__pycache__" not in path.parts)
TREES = {path: ast.parse(path.read_text(encoding="ascii")) for path in FILES if path.suffix == ".py"}

STATEMENTS = (ast.Assign, ast.AugAssign, ast.If, ast.While, ast.For, ast.Return, ast.Break, ast.Continue, ast.Pass,
              ast.Raise, ast.Try, ast.Expr, ast.FunctionDef, ast.ClassDef, ast.ImportFrom)
NO_EXPRESSIONS = (ast.Set, ast.SetComp, ast.DictComp, ast.GeneratorExp, ast.NamedExpr, ast.Starred, ast.Await,
                  ast.Yield, ast.YieldFrom, ast.Div, ast.MatMult)
OWN_NAMES = set("""len range enumerate zip min max sum abs sorted reversed int str bool list tuple dict set frozenset
    isinstance ord repr any all divmod Exception ValueError TypeError KeyError IndexError LookupError ZeroDivisionError
    ArithmeticError OverflowError RuntimeError NotImplementedError AttributeError StopIteration""".split())
METHODS = set("""append clear copy count endswith extend find get index insert isalnum isalpha isdigit islower isspace
    isupper items join keys ljust lower lstrip partition pop remove replace reverse rfind rjust rpartition rsplit rstrip
    setdefault split splitlines startswith strip update upper values zfill bit_length""".split())
NO_NAMES = set("""register mro elements open input version_info with_traceback add_note attrgetter breakpoint builtins
    compile copyright credits delattr dir eval exec exit gc getattr globals hasattr help id importlib license locals
    methodcaller os quit setattr super type vars sys chr""".split())
NO_WORDS = re.compile(r"\b(type|typing|typing_extensions|enum|Enum|IntEnum|StrEnum|Flag|IntFlag|Generic|Protocol|ABC|"
                      r"ABCMeta|namedtuple|NamedTuple|TypedDict|TYPE_CHECKING|abstractmethod)\b|dataclass|overload|"
                      r"contextmanager")
PYTHONS_ATTRIBUTES = {name for kind in (str, int, list, dict, set, bytes, tuple) for name in dir(kind)}
FILE_NAMES_OUT = {"test", "tests", "testing", "site", "conftest", "sitecustomize", "usercustomize"}
KEYWORDS = {"sorted": ("key", "reverse"), "min": ("key", "default"), "max": ("key", "default"), "sum": ("start",),
            "enumerate": ("start",), "zip": ("strict",)}
CHANGES = {"append", "clear", "extend", "insert", "pop", "remove", "reverse", "setdefault", "update"}
WALKED = {"zip", "enumerate", "reversed", "range"}
WALKERS = {"list", "tuple", "dict", "sorted", "sum", "any", "all", "enumerate", "zip", "min", "max"}


def nodes(*kinds):
    return [(path.name, node) for path, tree in TREES.items() for node in ast.walk(tree) if isinstance(node, kinds)]


def is_plain(value, functions):
    if isinstance(value, (ast.Tuple, ast.List)):
        return all(is_plain(part, functions) for part in value.elts)
    if isinstance(value, ast.Dict):
        return all(is_plain(part, functions) for part in value.keys + value.values)
    if isinstance(value, ast.UnaryOp) and isinstance(value.op, ast.USub):
        value = value.operand
    if isinstance(value, ast.Name):
        return value.id in functions
    return isinstance(value, ast.Constant) and (value.value is None or isinstance(value.value, (int, str)))


def bound_names(tree):
    """The names that are bound as parameters or locals."""
    for node in ast.walk(tree):
        if isinstance(node, ast.FunctionDef):
            yield from (argument.arg for argument in node.args.args)
            for inner in ast.walk(node):
                if isinstance(inner, ast.Name) and isinstance(inner.ctx, ast.Store):
                    yield inner.id


class Language(unittest.TestCase):
    def each(self, pairs, allowed, said):
        for name, node in pairs:
            self.assertTrue(allowed(node), f"{said}: {name}:{getattr(node, 'lineno', '?')}")

    def test_files(self):
        for path in FILES:
            self.assertRegex(path.name, r"^(__init__|[a-z][a-z0-9_]*)\.py$")
            self.assertNotIn(path.stem, FILE_NAMES_OUT | set(dir(builtins)))
            self.assertFalse(path.stem.startswith("test_"))
            text = path.read_text(encoding="utf-8")
            self.assertRegex(text, r"\A[\n -~]*\Z")
            rows = text.split("\n")
            self.assertLessEqual(len(rows), 400)
            self.assertLessEqual(max(len(row) for row in rows), 120)
            self.assertIsNone(NO_WORDS.search(text), path.name)

    def test_tops(self):
        for path, tree in TREES.items():
            functions, names = set(), []
            for place, node in enumerate(tree.body):
                if isinstance(node, ast.Assign):
                    self.assertTrue(is_plain(node.value, functions), f"{path.name}:{node.lineno}")
                    names.append(node.targets[0].id)
                elif isinstance(node, (ast.FunctionDef, ast.ClassDef)):
                    functions |= {node.name} if isinstance(node, ast.FunctionDef) else set()
                    names.append(node.name)
                elif isinstance(node, ast.ImportFrom):
                    names += [alias.name for alias in node.names]
                else:
                    self.assertTrue(place == 0 and isinstance(node.value.value, str), f"{path.name}:{node.lineno}")
            self.assertEqual(len(names), len(set(names)), path.name)

    def test_imports(self):
        drawn = {}
        for path, tree in TREES.items():
            rows = [node for node in ast.walk(tree) if isinstance(node, (ast.Import, ast.ImportFrom))]
            drawn[path.stem] = set()
            for node in rows:
                self.assertIsInstance(node, ast.ImportFrom)
                self.assertEqual(node.level, 0)
                source = node.module.removeprefix("countproofs.")
                drawn[path.stem].add(source)
                defined = TREES[PACKAGE / f"{source}.py"].body
                here = {item.name for item in defined if isinstance(item, (ast.FunctionDef, ast.ClassDef))}
                here |= {item.targets[0].id for item in defined if isinstance(item, ast.Assign)}
                for alias in node.names:
                    self.assertIn(alias.name, here)
                    self.assertIsNone(alias.asname)
        while drawn:
            ends = [name for name in drawn if not drawn[name]]
            self.assertTrue(ends, "files draw from one another")
            drawn = {name: drawn[name] - set(ends) for name in drawn if name not in ends}

    def test_functions_and_classes(self):
        for name, node in nodes(ast.FunctionDef):
            said = f"{name}:{node.lineno}"
            self.assertFalse(node.decorator_list or node.args.vararg or node.args.kwarg or node.args.kwonlyargs
                             or node.args.posonlyargs or node.returns, said)
            self.assertLessEqual(node.end_lineno - node.lineno + 1, 40, said)
        for name, node in nodes(ast.ClassDef):
            self.assertTrue(len(node.bases) <= 1 and not node.decorator_list and not node.keywords)
            for place, item in enumerate(node.body):
                self.assertTrue(isinstance(item, ast.FunctionDef) or (place == 0 and isinstance(item, ast.Expr)))
        methods = {item.name for _, node in nodes(ast.ClassDef) for item in node.body if isinstance(item, ast.FunctionDef)}
        kept = {node.attr for _, node in nodes(ast.Attribute) if isinstance(node.ctx, ast.Store)}
        self.assertEqual(methods & kept, set())
        self.assertEqual((methods | kept) & PYTHONS_ATTRIBUTES, {"__init__"})
        called = [node.func.attr for _, node in nodes(ast.Call) if isinstance(node.func, ast.Attribute)]
        self.assertEqual(set(called) - methods - METHODS, set())

    def test_statements_and_expressions(self):
        self.each(nodes(ast.stmt), lambda node: isinstance(node, STATEMENTS), "statement")
        self.each(nodes(ast.For, ast.While), lambda node: not node.orelse, "else behind a loop")
        self.each(nodes(ast.Assign), lambda node: len(node.targets) == 1 and not isinstance(node.targets[0], ast.Tuple),
                  "one target")
        self.each(nodes(ast.expr, ast.operator), lambda node: not isinstance(node, NO_EXPRESSIONS), "expression")
        self.each(nodes(ast.Constant), lambda node: node.value is None or type(node.value) in (int, str, bool), "value")
        self.each(nodes(ast.Constant), lambda node: not isinstance(node.value, str) or "%" not in node.value, "sign")
        self.each(nodes(ast.ListComp), lambda node: len(node.generators) == 1 and len(node.generators[0].ifs) <= 1,
                  "comprehension")
        self.each(nodes(ast.Compare), lambda node: not any(isinstance(op, (ast.Is, ast.IsNot)) for op in node.ops)
                  or all(isinstance(side, ast.Constant) for side in node.comparators), "is")
        self.each(nodes(ast.BinOp), lambda node: not isinstance(node.op, ast.Pow), "power")

    def test_names(self):
        used = {node.id for _, node in nodes(ast.Name)} | {node.attr for _, node in nodes(ast.Attribute)}
        self.assertEqual(used & NO_NAMES, set())
        self.assertEqual({name for name in used if name.startswith("_")}, set())
        self.assertEqual({node.id for _, node in nodes(ast.Name)} & set(dir(builtins)) - OWN_NAMES, set())
        for path, tree in TREES.items():
            out = {item.name for item in tree.body if isinstance(item, ast.ClassDef)} | set(dir(builtins))
            out |= {alias.name for item in tree.body if isinstance(item, ast.ImportFrom) for alias in item.names}
            self.assertEqual(set(bound_names(tree)) & out, set(), path.name)

    def test_walked_at_once(self):
        allowed = set()
        for _, node in nodes(ast.For, ast.comprehension):
            allowed.add(node.iter)
        for _, node in nodes(ast.Call):
            if isinstance(node.func, ast.Name) and node.func.id in WALKERS and node.args:
                allowed.add(node.args[0])
        for name, node in nodes(ast.Call):
            if isinstance(node.func, ast.Name) and node.func.id in WALKED:
                self.assertIn(node, allowed, f"{name}:{node.lineno}")

    def test_what_the_package_does_without(self):
        # Some of it the rules allow within limits; a package without it keeps these limits.
        out = (ast.Lambda, ast.JoinedStr, ast.Try, ast.Raise, ast.AnnAssign)
        self.assertEqual([f"{name}:{node.lineno}" for name, node in nodes(*out)], [])
        self.each(nodes(ast.Name), lambda node: node.id not in ("set", "frozenset", "isinstance", "chr"), "name")
        self.each(nodes(ast.FunctionDef), lambda node: not node.args.defaults, "default")
        self.each(nodes(ast.arg), lambda node: node.annotation is None, "annotation")
        self.each(nodes(ast.FunctionDef), lambda node: not any(isinstance(inner, ast.FunctionDef) for statement in node.body
                                                               for inner in ast.walk(statement)), "def within a def")

    def test_keywords(self):
        for name, node in nodes(ast.Call):
            for keyword in node.keywords:
                called = node.func.id if isinstance(node.func, ast.Name) else None
                self.assertIn(keyword.arg, KEYWORDS.get(called, ()), f"{name}:{node.lineno}")

    def test_tables_at_the_top_are_only_read(self):
        for path, tree in TREES.items():
            tables = {item.targets[0].id: item.value for item in tree.body if isinstance(item, ast.Assign)
                      and isinstance(item.value, (ast.List, ast.Dict))}
            for value in tables.values():
                inner = [node for node in ast.walk(value) if isinstance(node, (ast.List, ast.Dict))]
                self.assertEqual(inner, [value], path.name)
            reads = [node.value for node in ast.walk(tree) if isinstance(node, ast.Subscript) and isinstance(node.ctx, ast.Load)]
            reads += [node.value for node in ast.walk(tree) if isinstance(node, ast.Attribute) and node.attr == "get"]
            reads += [side for node in ast.walk(tree) if isinstance(node, ast.Compare) for side in node.comparators]
            for node in ast.walk(tree):
                if isinstance(node, ast.Name) and node.id in tables and isinstance(node.ctx, ast.Load):
                    self.assertIn(node, reads, f"{path.name}:{node.lineno}")
                if isinstance(node, ast.ImportFrom):
                    source = TREES[PACKAGE / f"{node.module.removeprefix('countproofs.')}.py"]
                    drawn = {alias.name for alias in node.names}
                    self.assertFalse([item for item in source.body if isinstance(item, ast.Assign)
                                      and item.targets[0].id in drawn and isinstance(item.value, (ast.List, ast.Dict))])

    def test_classes_are_called_or_are_bases(self):
        classes = {node.name for _, node in nodes(ast.ClassDef)}
        allowed = {node.func for _, node in nodes(ast.Call)} | {base for _, node in nodes(ast.ClassDef) for base in node.bases}
        self.each(nodes(ast.Name), lambda node: node.id not in classes or node in allowed, "class")

    def test_what_a_loop_walks_is_not_changed_in_it(self):
        for name, loop in nodes(ast.For):
            walked = {ast.unparse(node) for node in ast.walk(loop.iter) if isinstance(node, (ast.Name, ast.Attribute))}
            for node in ast.walk(ast.Module(loop.body, [])):
                if isinstance(node, ast.Call) and isinstance(node.func, ast.Attribute) and node.func.attr in CHANGES:
                    self.assertNotIn(ast.unparse(node.func.value), walked, f"{name}:{node.lineno}")
                if isinstance(node, ast.Subscript) and isinstance(node.ctx, ast.Store):
                    self.assertNotIn(ast.unparse(node.value), walked, f"{name}:{node.lineno}")

    def test_texts(self):
        for name, node in nodes(ast.Constant):
            if isinstance(node.value, str):
                self.assertRegex(node.value, r"\A[\n -~]*\Z", f"{name}:{node.lineno}")
        for path in FILES:
            self.assertEqual(re.findall(r"\\[^nt\\'\"]", path.read_text(encoding="ascii")), [], path.name)

    def test_no_recursion_over_what_is_long(self):
        # A proof of 200 lines that hang on one another and formulas that nest as deep as can be, with few calls to spare.
        chain = written(["ax " + "!" * 39 + "a"] + [f"ex {number} 0 1" for number in range(199)])
        depth = len(inspect.stack()) + 200
        limit = sys.getrecursionlimit()
        sys.setrecursionlimit(depth)
        try:
            run(proof(chain), [7, 199], [8, 199], [10, 199], [11, 199], rename("a", "b"), fill("b", "~b"), [15, 199], [14],
                keep(0), [14], [3], [4, 117], line("ax " + "(" * 1990), find("~" * 1990), find("(" * 100 + "a" + ")" * 100))
        finally:
            sys.setrecursionlimit(limit)


if __name__ == "__main__":
    unittest.main()

"""The package keeps to the language of the program (../shared/LANGUAGE.md), as far as a short test can tell.

What is allowed here is narrower than that document: just what the package uses so far.
"""

import ast
import builtins
import unittest
from pathlib import Path

PACKAGE = Path(__file__).resolve().parent.parent / "countdoors"
FILES = sorted(PACKAGE.glob("*.py"))
CALLED = set("""len range enumerate zip min max sum abs sorted reversed int str bool list tuple dict set
isinstance any all divmod""".split())
LIBRARY = {"itertools": {"combinations"}, "math": {"comb", "factorial", "gcd"}}
METHODS = {"append", "bit_length", "count", "get", "index", "items", "join", "split", "values"}
BARRED = set("""register mro elements open input law type typing enum compile copyright dir eval exec exit
globals help id license locals quit vars""".split())
STATEMENTS = (
    ast.Assign, ast.AugAssign, ast.If, ast.While, ast.For, ast.Return, ast.Break, ast.Continue, ast.Raise,
    ast.Expr, ast.FunctionDef, ast.ClassDef, ast.ImportFrom, ast.Try,
)
UNUSED = (
    ast.GeneratorExp, ast.Lambda, ast.Await, ast.Yield, ast.YieldFrom, ast.Set,
    ast.Div, ast.MatMult, ast.Pow, ast.Starred, ast.NamedExpr,
)


def trees():
    return [(path, ast.parse(path.read_text(encoding="ascii"))) for path in FILES]


def functions(tree):
    return [node for node in ast.walk(tree) if isinstance(node, ast.FunctionDef)]


def imports(tree):
    return [node for node in tree.body if isinstance(node, ast.ImportFrom)]


def own_methods(tree):
    return {
        node.name for kind in tree.body if isinstance(kind, ast.ClassDef)
        for node in kind.body if isinstance(node, ast.FunctionDef)
    }


def bound_names(tree):
    """All names that a file binds: functions, classes, parameters, variables, imports."""
    names = [node.name for node in ast.walk(tree) if isinstance(node, (ast.FunctionDef, ast.ClassDef))]
    names += [node.arg for node in ast.walk(tree) if isinstance(node, ast.arg)]
    names += [node.id for node in ast.walk(tree) if isinstance(node, ast.Name) and isinstance(node.ctx, ast.Store)]
    return names + [alias.name for node in imports(tree) for alias in node.names]


class Language(unittest.TestCase):
    def test_files(self):
        for path in PACKAGE.iterdir():
            self.assertTrue(path.suffix == ".py" or path.name == "__pycache__", path)
        for path in FILES:
            with self.subTest(path.name):
                self.assertRegex(path.name, r"^[a-z_][a-z0-9_]*\.py$")
                lines = path.read_text(encoding="ascii").split("\n")
                self.assertLessEqual(len(lines), 399)
                for line in lines:
                    self.assertLessEqual(len(line), 120)
                    self.assertTrue(all(" " <= sign <= "~" for sign in line), line)

    def test_functions_are_small(self):
        for path, tree in trees():
            for node in functions(tree):
                self.assertLessEqual(node.end_lineno - node.lineno + 1, 40, f"{path.name} {node.name}")
                decorators = [ast.unparse(decorator) for decorator in node.decorator_list]
                self.assertIn(decorators, [[], ["property"]])

    def test_module_level(self):
        for path, tree in trees():
            for node in tree.body:
                kinds = (ast.ImportFrom, ast.FunctionDef, ast.ClassDef, ast.Assign, ast.Expr)
                self.assertIsInstance(node, kinds, path.name)
                if isinstance(node, (ast.Assign, ast.Expr)):
                    ast.literal_eval(node.value)

    def test_imports(self):
        names = {path.stem: {node.name for node in tree.body if hasattr(node, "name")} | {
            node.targets[0].id for node in tree.body if isinstance(node, ast.Assign)
        } for path, tree in trees()}
        for path, tree in trees():
            for node in imports(tree):
                taken = {alias.name for alias in node.names}
                self.assertEqual([alias.asname for alias in node.names if alias.asname], [])
                if node.module in LIBRARY:
                    self.assertLessEqual(taken, LIBRARY[node.module])
                else:
                    package, _, name = node.module.partition(".")
                    self.assertEqual(package, "countdoors")
                    self.assertLessEqual(taken, names[name], path.name)

    def test_no_circle_of_imports(self):
        needs = {
            f"countdoors.{path.stem}": {node.module for node in imports(tree) if node.module not in LIBRARY}
            for path, tree in trees()
        }
        while needs:
            free = [name for name, others in needs.items() if not others & set(needs)]
            self.assertTrue(free, needs)
            for name in free:
                del needs[name]

    def test_statements_and_expressions(self):
        for path, tree in trees():
            for node in ast.walk(tree):
                place = f"{path.name}:{getattr(node, 'lineno', 0)}"
                if isinstance(node, ast.stmt):
                    self.assertIsInstance(node, STATEMENTS, place)
                self.assertNotIsInstance(node, UNUSED, place)
                if isinstance(node, ast.Constant):
                    self.assertNotIsInstance(node.value, (float, complex, bytes), place)

    def test_names(self):
        builtin_names = set(dir(builtins)) - {"_"}
        for path, tree in trees():
            with self.subTest(path.name):
                bound = bound_names(tree)
                self.assertEqual(set(bound) & (builtin_names | BARRED), set())
                kept = [alias.name for node in imports(tree) for alias in node.names]
                kept += [node.name for node in tree.body if isinstance(node, (ast.FunctionDef, ast.ClassDef))]
                self.assertEqual([name for name in kept if bound.count(name) > 1], [])
                for node in ast.walk(tree):
                    if isinstance(node, ast.Name) and node.id in builtin_names and node.id not in bound:
                        self.assertIn(node.id, CALLED | {"ValueError", "property"})

    def test_methods(self):
        for path, tree in trees():
            for node in ast.walk(tree):
                if isinstance(node, ast.Call) and isinstance(node.func, ast.Attribute):
                    allowed = own_methods(tree) if ast.unparse(node.func.value) == "self" else METHODS
                    self.assertIn(node.func.attr, allowed, f"{path.name}:{node.lineno}")

    def test_own_methods_and_attributes(self):
        own = set().union(*[own_methods(tree) for _, tree in trees()])
        of_values = {name for value in ("", b"", 0, [], {}, set(), ()) for name in dir(value)}
        self.assertEqual(own & (of_values - {"__init__"}), set())
        for path, tree in trees():
            stored = {node.attr for node in ast.walk(tree) if isinstance(node, ast.Attribute) and isinstance(node.ctx, ast.Store)}
            self.assertEqual(stored & own, set(), path.name)

    def test_sets_are_sorted_or_counted_on_the_spot(self):
        for path, tree in trees():
            calls = [node for node in ast.walk(tree) if isinstance(node, ast.Call) and isinstance(node.func, ast.Name)]
            taken = [node.args[0] for node in calls if node.func.id in ("sorted", "len") and not node.keywords]
            sets = [node for node in ast.walk(tree) if isinstance(node, ast.SetComp)]
            sets += [node for node in calls if node.func.id == "set"]
            self.assertEqual([node.lineno for node in sets if node not in taken], [], path.name)

    def test_own_errors_alone_are_caught(self):
        for path, tree in trees():
            for node in ast.walk(tree):
                if isinstance(node, ast.Try):
                    caught = [ast.unparse(handler.type) for handler in node.handlers]
                    self.assertEqual((caught, node.orelse, node.finalbody), (["DoorError"], [], []), path.name)

    def test_combinations_are_iterated_at_once(self):
        for path, tree in trees():
            calls = [node for node in ast.walk(tree) if isinstance(node, ast.Call) and ast.unparse(node.func) == "combinations"]
            loops = [node.iter for node in ast.walk(tree) if isinstance(node, (ast.For, ast.comprehension))]
            self.assertEqual([node.lineno for node in calls if node not in loops], [], path.name)

    def test_percent_signs(self):
        for path, tree in trees():
            for node in ast.walk(tree):
                if isinstance(node, ast.Constant) and isinstance(node.value, str):
                    self.assertNotIn("%", node.value, path.name)


if __name__ == "__main__":
    unittest.main()

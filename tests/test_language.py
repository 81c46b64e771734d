"""The interface as it is listed, and what a reader of the source can tell of the language's rules."""

import ast
import builtins
import unittest
from pathlib import Path

PACKAGE = Path(__file__).resolve().parent.parent / "swaprings"
FILES = sorted(PACKAGE.rglob("*.py"))

INTERFACE = {
    "rules": {
        "require_rule": ["value"], "steps_of": ["rule"], "price_of": ["rule", "i", "j"], "unpriced": ["rule"],
        "flipped": ["rule"],
    },
    "tables": {
        "require_sums": ["rule", "value"], "require_table": ["rule", "value"], "sums_of": ["table"],
        "price_of_table": ["rule", "table"], "is_ring": ["rule", "value"],
        "turned": ["rule", "table", "ring", "times"],
    },
    "orders": {
        "four_against": ["rule", "steps", "step"], "may_go_first": ["rule", "steps"], "least_order": ["rule"],
        "stuck_steps": ["rule"], "is_order": ["rule", "value"], "good_lines": ["rule"],
        "are_good_lines": ["rule", "value"],
    },
    "rings": {
        "chords": ["rule", "ring"], "is_bare": ["rule", "ring"], "halves": ["rule", "ring", "chord"],
        "bare_rings": ["rule"], "crew": ["rule"], "trails": ["rule", "most"],
    },
    "thresholds": {
        "are_joined": ["rule", "people", "most"], "least_parted": ["rule", "most"], "parted": ["rule", "people", "most"],
    },
    "filling": {
        "filled": ["rule", "steps", "sums"], "spoiled": ["rule", "steps"], "spoiled_sums": ["rule", "steps"],
    },
    "ways": {
        "calm_way": ["rule", "order", "table"], "way_between": ["rule", "table", "other", "most"],
        "walked": ["rule", "table", "way"], "reached": ["rule", "table", "most"],
    },
    "barriers": {
        "next_shifts": ["rule", "shifts"], "is_barrier": ["rule", "sums", "value"], "table_for": ["rule", "sums"],
        "barrier_for": ["rule", "sums"],
    },
    "prices": {
        "is_potentials": ["rule", "value"], "worth": ["sums", "potentials"], "cheapest": ["rule", "sums"],
        "least_price": ["rule", "sums"], "potentials_for": ["rule", "sums"],
    },
    "limits": {
        "least_of": ["rule", "sums", "step"], "most_of": ["rule", "sums", "step"],
        "upper": ["rule", "sums", "step", "shifts"], "lower": ["rule", "sums", "step", "shifts"],
        "sure_steps": ["rule", "sums"], "idle_steps": ["rule", "sums"],
    },
    "spares": {
        "is_spare": ["rule", "ring", "step"], "spare_way": ["rule", "ring", "step"], "spare_steps": ["rule"],
        "spares_of": ["rule"],
    },
}

LIBRARY = ("heapq", "math", "itertools", "collections")
BUILTINS = """len range enumerate zip min max sum abs sorted reversed int str bool bytes list tuple dict set frozenset
    isinstance ord repr any all divmod pow getattr hasattr setattr iter next map type super property Exception
    ValueError TypeError KeyError IndexError LookupError ZeroDivisionError ArithmeticError OverflowError RuntimeError
    NotImplementedError AttributeError StopIteration NotImplemented""".split()
BARRED = (
    ast.AsyncFunctionDef, ast.AsyncFor, ast.AsyncWith, ast.Await, ast.Import, ast.Div, ast.MatMult, ast.Is, ast.IsNot,
)


def trees():
    return [(path, ast.parse(path.read_text("ascii"))) for path in FILES]


def bound_names(tree):
    for node in ast.walk(tree):
        if isinstance(node, ast.Name) and isinstance(node.ctx, ast.Store):
            yield node.id
        elif isinstance(node, (ast.FunctionDef, ast.ClassDef)):
            yield node.name
        elif isinstance(node, ast.arg):
            yield node.arg
        elif isinstance(node, ast.ImportFrom):
            yield from [alias.asname or alias.name for alias in node.names]


class Interface(unittest.TestCase):
    def test_each_function_is_defined_in_its_file_with_its_arguments(self):
        for name, functions in INTERFACE.items():
            tree = ast.parse((PACKAGE / f"{name}.py").read_text("ascii"))
            defined = {node.name: node.args for node in tree.body if isinstance(node, ast.FunctionDef)}
            for function, words in functions.items():
                self.assertEqual([word.arg for word in defined[function].args], words, function)


class Language(unittest.TestCase):
    def test_files_and_lines(self):
        others = [path for path in PACKAGE.rglob("*") if path.suffix != ".py" and "__pycache__" not in path.parts]
        self.assertEqual(others, [])
        for path in FILES:
            lines = path.read_text("ascii").split("\n")
            self.assertLessEqual(len(lines), 400, path)
            for line in lines:
                self.assertLessEqual(len(line), 120, (path, line))
                self.assertTrue(all(" " <= sign <= "~" for sign in line), (path, line))

    def test_only_what_may_stand_at_module_level(self):
        for path, tree in trees():
            for place, node in enumerate(tree.body):
                is_docstring = place == 0 and isinstance(node, ast.Expr) and isinstance(node.value, ast.Constant)
                is_plain = isinstance(node, ast.Assign) and len(node.targets) == 1
                kinds = (ast.ImportFrom, ast.FunctionDef, ast.ClassDef)
                self.assertTrue(is_docstring or is_plain or isinstance(node, kinds), (path, ast.dump(node)))

    def test_imports_name_the_file_that_defines(self):
        for path, tree in trees():
            for node in [node for node in ast.walk(tree) if isinstance(node, ast.ImportFrom)]:
                self.assertEqual(node.level, 0)
                self.assertIn(node, tree.body)
                if node.module in LIBRARY:
                    continue
                parts = node.module.split(".")
                self.assertEqual((parts[0], len(parts)), ("swaprings", 2), path)
                source = ast.parse((PACKAGE / f"{parts[1]}.py").read_text("ascii"))
                defined = [other.name for other in source.body if isinstance(other, (ast.FunctionDef, ast.ClassDef))]
                defined += [other.targets[0].id for other in source.body if isinstance(other, ast.Assign)]
                for alias in node.names:
                    self.assertIn(alias.name, defined, path)

    def test_functions_are_small_and_undecorated(self):
        for path, tree in trees():
            for node in [node for node in ast.walk(tree) if isinstance(node, ast.FunctionDef)]:
                self.assertLessEqual(node.end_lineno - node.lineno + 1, 40, (path, node.name))
                told = [ast.unparse(decorator) for decorator in node.decorator_list]
                self.assertIn(told, ([], ["property"], ["staticmethod"], ["classmethod"]), (path, node.name))

    def test_no_barred_words(self):
        for path, tree in trees():
            for node in ast.walk(tree):
                if isinstance(node, ast.Compare) and isinstance(node.ops[0], (ast.Is, ast.IsNot)):
                    self.assertIn(ast.unparse(node.comparators[0]), ("None", "True", "False"), path)
                elif not isinstance(node, (ast.Is, ast.IsNot)):
                    self.assertNotIsInstance(node, BARRED, path)
                if isinstance(node, ast.Constant):
                    self.assertNotIsInstance(node.value, (float, complex), path)

    def test_no_other_builtins_and_none_with_another_meaning(self):
        for path, tree in trees():
            bound = set(bound_names(tree)) - {"_"}
            self.assertEqual(sorted(bound & set(dir(builtins))), [], path)
            for node in ast.walk(tree):
                if isinstance(node, ast.Name) and isinstance(node.ctx, ast.Load):
                    self.assertIn(node.id, bound | set(BUILTINS), path)


if __name__ == "__main__":
    unittest.main()

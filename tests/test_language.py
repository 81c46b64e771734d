"""The interface as it is listed, and what a reader of the source can tell of the language's rules."""

import ast
import builtins
import re
import unittest
from pathlib import Path

PACKAGE = Path(__file__).resolve().parent.parent / "swaprings"
FILES = sorted(PACKAGE.rglob("*.py"))

INTERFACE = {
    "rules": {
        "require_rule": ["value"], "steps_of": ["rule"], "price_of": ["rule", "i", "j"], "unpriced": ["rule"],
        "flipped": ["rule"],
    },
    "tables": {
        "require_sums": ["rule", "value"], "require_table": ["rule", "value"], "sums_of": ["table"],
        "price_of_table": ["rule", "table"], "is_ring": ["rule", "value"],
        "turned": ["rule", "table", "ring", "times"],
    },
    "orders": {
        "four_against": ["rule", "steps", "step"], "may_go_first": ["rule", "steps"], "least_order": ["rule"],
        "stuck_steps": ["rule"], "is_order": ["rule", "value"], "good_lines": ["rule"],
        "are_good_lines": ["rule", "value"],
    },
    "rings": {
        "chords": ["rule", "ring"], "is_bare": ["rule", "ring"], "halves": ["rule", "ring", "chord"],
        "bare_rings": ["rule"], "crew": ["rule"], "trails": ["rule", "most"],
    },
    "thresholds": {
        "are_joined": ["rule", "people", "most"], "least_parted": ["rule", "most"], "parted": ["rule", "people", "most"],
    },
    "filling": {
        "filled": ["rule", "steps", "sums"], "spoiled": ["rule", "steps"], "spoiled_sums": ["rule", "steps"],
    },
    "ways": {
        "calm_way": ["rule", "order", "table"], "way_between": ["rule", "table", "other", "most"],
        "walked": ["rule", "table", "way"], "reached": ["rule", "table", "most"],
    },
    "barriers": {
        "next_shifts": ["rule", "shifts"], "is_barrier": ["rule", "sums", "value"], "table_for": ["rule", "sums"],
        "barrier_for": ["rule", "sums"],
    },
    "prices": {
        "is_potentials": ["rule", "value"], "worth": ["sums", "potentials"], "cheapest": ["rule", "sums"],
        "least_price": ["rule", "sums"], "potentials_for": ["rule", "sums"],
    },
    "limits": {
        "least_of": ["rule", "sums", "step"], "most_of": ["rule", "sums", "step"],
        "upper": ["rule", "sums", "step", "shifts"], "lower": ["rule", "sums", "step", "shifts"],
        "sure_steps": ["rule", "sums"], "idle_steps": ["rule", "sums"],
    },
    "spares": {
        "is_spare": ["rule", "ring", "step"], "spare_way": ["rule", "ring", "step"], "spare_steps": ["rule"],
        "spares_of": ["rule"],
    },
    "choices": {
        "require_options": ["rule", "value"], "choices": ["options"], "rule_with": ["rule", "options", "choice"],
        "cheapest_choice": ["rule", "options"],
    },
    "plans": {
        "require_plan": ["value"], "is_endless": ["plan"], "sums_for": ["plan", "t"], "roster_for": ["plan"],
        "first_barrier": ["plan"], "cheapest_roster": ["plan"], "row_fits": ["plan", "row"],
    },
    "rounds": {
        "require_rota": ["plan", "value"], "tables_of": ["plan", "rota"], "rounds": ["rota"],
        "pieces": ["plan", "rota"], "rota_changed": ["rota", "day", "one", "other"], "fewest_rounds": ["rota"],
    },
    "claims": {"require_claim": ["claim"], "decide": ["claim"]},
    "checker": {"first_fault": ["certificate"]},
    "texts": {
        "format_rule": ["rule"], "format_table": ["table"], "format_plan": ["plan"], "parse_rule": ["text"],
        "parse_table": ["text"], "parse_plan": ["text"],
    },
}
# For each class the arguments of its methods behind the first one; those behind a "*" are passed by name.
CLASSES = {
    "changes": {"Change": {
        "__init__": ["cells"], "between": ["table", "other"], "of": ["ring", "shifts", "*", "times"], "people": [],
        "turns": [], "applied": ["rule", "table"], "__getitem__": ["at"], "__eq__": ["other"], "__bool__": [],
        "__add__": ["other"], "__sub__": ["other"], "__neg__": [], "__mul__": ["other"], "__rmul__": ["other"],
    }},
    "rosters": {"Roster": {
        "__init__": ["rules", "rows", "*", "together"], "__len__": [], "__getitem__": ["at"], "__iadd__": ["deeds"],
        "rows": [], "price": [], "absent": [], "table": ["day"], "exchange": ["day", "one", "other"],
        "hand_round": ["day", "people"], "sit_out": ["person"], "take_part": ["person"], "deeds": [], "back": [],
        "again": [], "change_rule": ["day", "rule"], "settle": [], "can_have": ["person", "day", "shift"],
        "wish": ["person", "day", "shift"], "become": ["rows"],
    }},
}

LIBRARY = ("heapq", "math", "itertools", "collections")
BUILTINS = """len range enumerate zip min max sum abs sorted reversed int str bool bytes list tuple dict set frozenset
    isinstance ord repr any all divmod pow getattr hasattr setattr iter next map super property classmethod staticmethod Exception
    ValueError TypeError KeyError IndexError LookupError ZeroDivisionError ArithmeticError OverflowError RuntimeError
    NotImplementedError AttributeError StopIteration NotImplemented""".split()
METHODS = """append clear copy count endswith extend find get index insert items join keys pop remove replace reverse
    setdefault split startswith strip update values""".split()
BARRED = (
    ast.AsyncFunctionDef, ast.AsyncFor, ast.AsyncWith, ast.Await, ast.Import, ast.Div, ast.MatMult, ast.Is, ast.IsNot,
)


def trees():
    return [(path, ast.parse(path.read_text("ascii"))) for path in FILES]


def bound_names(tree):
    for node in ast.walk(tree):
        if isinstance(node, ast.Name) and isinstance(node.ctx, ast.Store):
            yield node.id
        elif isinstance(node, (ast.FunctionDef, ast.ClassDef)):
            yield node.name
        elif isinstance(node, ast.arg):
            yield node.arg
        elif isinstance(node, ast.ImportFrom):
            yield from [alias.asname or alias.name for alias in node.names]


class Interface(unittest.TestCase):
    def test_each_function_is_defined_in_its_file_with_its_arguments(self):
        for name, functions in INTERFACE.items():
            tree = ast.parse((PACKAGE / f"{name}.py").read_text("ascii"))
            defined = {node.name: node.args for node in tree.body if isinstance(node, ast.FunctionDef)}
            for function, words in functions.items():
                self.assertEqual([word.arg for word in defined[function].args], words, function)


    def test_each_class_is_defined_in_its_file_with_its_methods(self):
        for name, classes in CLASSES.items():
            tree = ast.parse((PACKAGE / f"{name}.py").read_text("ascii"))
            for word, methods in classes.items():
                body = [node.body for node in tree.body if isinstance(node, ast.ClassDef) and node.name == word][0]
                defined = {node.name: node.args for node in body if isinstance(node, ast.FunctionDef)}
                for method, words in methods.items():
                    told = [arg.arg for arg in defined[method].args][1:]
                    told += ["*"] * bool(defined[method].kwonlyargs) + [arg.arg for arg in defined[method].kwonlyargs]
                    self.assertEqual(told, words, (word, method))


class Language(unittest.TestCase):
    def test_files_and_lines(self):
        others = [path for path in PACKAGE.rglob("*") if path.suffix != ".py" and "__pycache__" not in path.parts]
        self.assertEqual(others, [])
        for path in FILES:
            lines = path.read_text("ascii").split("\n")
            self.assertLessEqual(len(lines), 400, path)
            for line in lines:
                self.assertLessEqual(len(line), 120, (path, line))
                self.assertTrue(all(" " <= sign <= "~" for sign in line), (path, line))

    def test_only_what_may_stand_at_module_level(self):
        for path, tree in trees():
            for place, node in enumerate(tree.body):
                is_docstring = place == 0 and isinstance(node, ast.Expr) and isinstance(node.value, ast.Constant)
                is_plain = isinstance(node, ast.Assign) and len(node.targets) == 1
                kinds = (ast.ImportFrom, ast.FunctionDef, ast.ClassDef)
                self.assertTrue(is_docstring or is_plain or isinstance(node, kinds), (path, ast.dump(node)))

    def test_imports_name_the_file_that_defines(self):
        for path, tree in trees():
            for node in [node for node in ast.walk(tree) if isinstance(node, ast.ImportFrom)]:
                self.assertEqual(node.level, 0)
                self.assertIn(node, tree.body)
                if node.module in LIBRARY:
                    continue
                parts = node.module.split(".")
                self.assertEqual((parts[0], len(parts)), ("swaprings", 2), path)
                source = ast.parse((PACKAGE / f"{parts[1]}.py").read_text("ascii"))
                defined = [other.name for other in source.body if isinstance(other, (ast.FunctionDef, ast.ClassDef))]
                defined += [other.targets[0].id for other in source.body if isinstance(other, ast.Assign)]
                for alias in node.names:
                    self.assertIn(alias.name, defined, path)

    def test_functions_are_small_and_undecorated(self):
        for path, tree in trees():
            for node in [node for node in ast.walk(tree) if isinstance(node, ast.FunctionDef)]:
                self.assertLessEqual(node.end_lineno - node.lineno + 1, 40, (path, node.name))
                told = [ast.unparse(decorator) for decorator in node.decorator_list]
                self.assertIn(told, ([], ["property"], ["staticmethod"], ["classmethod"]), (path, node.name))

    def test_no_barred_words(self):
        for path, tree in trees():
            for node in ast.walk(tree):
                if isinstance(node, ast.Compare) and isinstance(node.ops[0], (ast.Is, ast.IsNot)):
                    self.assertIn(ast.unparse(node.comparators[0]), ("None", "True", "False"), path)
                elif not isinstance(node, (ast.Is, ast.IsNot)):
                    self.assertNotIsInstance(node, BARRED, path)
                if isinstance(node, ast.Constant):
                    self.assertNotIsInstance(node.value, (float, complex), path)

    def test_no_other_builtins_and_none_with_another_meaning(self):
        for path, tree in trees():
            bound = set(bound_names(tree)) - {"_"}
            self.assertEqual(sorted(bound & set(dir(builtins))), [], path)
            for node in ast.walk(tree):
                if isinstance(node, ast.Name) and isinstance(node.ctx, ast.Load):
                    self.assertIn(node.id, bound | set(BUILTINS), path)

    def test_only_methods_that_builtin_values_or_own_classes_may_have(self):
        own = {
            node.name for _, tree in trees() for top in tree.body if isinstance(top, ast.ClassDef)
            for node in top.body if isinstance(node, ast.FunctionDef)
        }
        for path, tree in trees():
            for node in ast.walk(tree):
                if isinstance(node, ast.Call) and isinstance(node.func, ast.Attribute):
                    self.assertIn(node.func.attr, own | set(METHODS), path)
                    if node.func.attr not in own:
                        self.assertEqual(node.keywords, [], (path, node.func.attr))

    def test_statements_that_operators_bar(self):
        # One class has __iadd__, others arithmetic: then a sum in place, a generator expression in sorted and the like
        # and a sort in place are barred in what an operator runs; they stand nowhere here.
        barred = (ast.AugAssign, ast.GeneratorExp, ast.Lambda, ast.Global, ast.Nonlocal, ast.Match, ast.With)
        for path, tree in trees():
            for node in ast.walk(tree):
                self.assertNotIsInstance(node, barred, path)
                if isinstance(node, ast.Try):
                    self.assertEqual((node.finalbody, node.orelse), ([], []), path)

    def test_no_nested_comprehension_takes_a_name_of_its_function(self):
        kinds = (ast.ListComp, ast.SetComp, ast.DictComp)
        for path, tree in trees():
            for function in [node for node in ast.walk(tree) if isinstance(node, ast.FunctionDef)]:
                comprehensions = [node for node in ast.walk(function) if isinstance(node, kinds)]
                within = {id(node) for outer in comprehensions for node in ast.walk(outer) if node is not outer}
                names = {arg.arg for arg in function.args.args + function.args.kwonlyargs}
                names |= {
                    node.id for node in ast.walk(function)
                    if isinstance(node, ast.Name) and isinstance(node.ctx, ast.Store) and id(node) not in within
                }
                for outer in comprehensions:
                    held = set(target_names(outer))
                    for inner in [node for node in ast.walk(outer) if isinstance(node, kinds) and node is not outer]:
                        self.assertEqual(sorted(set(target_names(inner)) & (names | held) - {"_"}), [], function.name)

    def test_sets_are_only_measured_sorted_compared_or_asked(self):
        for path, tree in trees():
            parents = {id(child): node for node in ast.walk(tree) for child in ast.iter_child_nodes(node)}
            for node in ast.walk(tree):
                is_call = isinstance(node, ast.Call) and isinstance(node.func, ast.Name) and node.func.id == "set"
                if is_call or isinstance(node, (ast.Set, ast.SetComp)):
                    parent = parents[id(node)]
                    if isinstance(parent, ast.Call):
                        self.assertIn(parent.func.id, ("sorted", "len"), path)
                    else:
                        self.assertIsInstance(parent, ast.Compare, path)

    def test_ranges_and_the_like_are_iterated_at_once(self):
        takers = ("list", "tuple", "dict", "sorted", "sum", "any", "all", "enumerate", "zip", "min", "max", "len")
        for path, tree in trees():
            parents = {id(child): node for node in ast.walk(tree) for child in ast.iter_child_nodes(node)}
            for node in ast.walk(tree):
                if not isinstance(node, ast.Call):
                    continue
                is_view = isinstance(node.func, ast.Attribute) and node.func.attr in ("items", "keys", "values")
                if not is_view and getattr(node.func, "id", None) not in ("range", "zip", "enumerate", "reversed"):
                    continue
                parent = parents[id(node)]
                if isinstance(parent, ast.Call):
                    self.assertIn(parent.func.id, takers, (path, ast.unparse(parent)))
                    self.assertIs(parent.args[0], node, (path, ast.unparse(parent)))
                elif isinstance(parent, ast.Assign):
                    self.assertEqual(node.func.id, "range", (path, ast.unparse(parent)))
                else:
                    self.assertIsInstance(parent, (ast.For, ast.comprehension), (path, ast.unparse(parent)))
                    self.assertIs(parent.iter, node, (path, ast.unparse(parent)))

    def test_kept_ranges_are_not_passed_on(self):
        for path, tree in trees():
            for function in [node for node in ast.walk(tree) if isinstance(node, ast.FunctionDef)]:
                kept = [
                    node.targets[0].id for node in ast.walk(function)
                    if isinstance(node, ast.Assign) and isinstance(node.value, ast.Call)
                    and getattr(node.value.func, "id", None) == "range"
                ]
                self.assertEqual(len(kept), len(set(kept)), path)
                for node in ast.walk(function):
                    if isinstance(node, ast.Call) and getattr(node.func, "id", None) not in ("list", "tuple", "len"):
                        self.assertEqual([arg.id for arg in node.args if getattr(arg, "id", None) in kept], [], path)
                    if isinstance(node, ast.Return):
                        self.assertNotIn(getattr(node.value, "id", None), kept, path)

    def test_no_local_name_is_that_of_an_import(self):
        for path, tree in trees():
            imported = {alias.name for node in tree.body if isinstance(node, ast.ImportFrom) for alias in node.names}
            imported |= {node.name for node in tree.body if isinstance(node, ast.ClassDef)}
            for function in [node for node in ast.walk(tree) if isinstance(node, ast.FunctionDef)]:
                names = {node.arg for node in ast.walk(function.args) if isinstance(node, ast.arg)}
                names |= {
                    node.id for node in ast.walk(function)
                    if isinstance(node, ast.Name) and isinstance(node.ctx, ast.Store)
                }
                self.assertEqual(sorted(names & imported), [], (path, function.name))

    def test_generators_are_iterated_at_once(self):
        generators = {
            function.name for _, tree in trees() for function in ast.walk(tree)
            if isinstance(function, ast.FunctionDef)
            and any(isinstance(node, (ast.Yield, ast.YieldFrom)) for node in ast.walk(function))
        }
        for path, tree in trees():
            parents = {id(child): node for node in ast.walk(tree) for child in ast.iter_child_nodes(node)}
            for node in ast.walk(tree):
                name = getattr(node, "id", None) or getattr(node, "attr", None)
                if name not in generators or isinstance(getattr(node, "ctx", None), ast.Store):
                    continue
                if isinstance(node, ast.Name) and not isinstance(parents[id(node)], ast.Call):
                    continue
                call = parents[id(node)]
                if call.func is not node:
                    continue
                parent = parents[id(call)]
                if isinstance(parent, ast.Call):
                    self.assertIn(parent.func.id, ("list", "tuple", "sorted"), path)
                else:
                    self.assertIsInstance(parent, (ast.For, ast.comprehension), path)

    def test_no_import_goes_round(self):
        goes = {path.stem: {
            node.module.split(".")[-1] for node in ast.walk(tree)
            if isinstance(node, ast.ImportFrom) and node.module.startswith("swaprings.")
        } for path, tree in trees()}
        while goes:
            ends = [name for name, others in goes.items() if not others & set(goes)]
            self.assertNotEqual(ends, [], goes)
            for name in ends:
                del goes[name]

    def test_each_function_is_used_and_each_import(self):
        told = {name for functions in INTERFACE.values() for name in functions}
        for path, tree in trees():
            imported = [alias.name for node in tree.body if isinstance(node, ast.ImportFrom) for alias in node.names]
            loaded = {node.id for node in ast.walk(tree) if isinstance(node, ast.Name)}
            self.assertEqual([name for name in imported if name not in loaded], [], path)
            told |= set(imported) | loaded
        for path, tree in trees():
            for node in tree.body:
                if isinstance(node, ast.FunctionDef):
                    self.assertIn(node.name, told, path)

    def test_words_that_stand_nowhere(self):
        for path in FILES:
            text = path.read_text("ascii")
            self.assertEqual(re.findall(r"_wall|\b(?:type|enum|law|open|input|metaclass|Meta)\b", text), [], path)
        for path, tree in trees():
            for node in ast.walk(tree):
                if isinstance(node, ast.Constant) and isinstance(node.value, str):
                    self.assertNotIn("%", node.value)


def target_names(comprehension):
    return [
        node.id for generator in comprehension.generators for node in ast.walk(generator.target)
        if isinstance(node, ast.Name)
    ]


if __name__ == "__main__":
    unittest.main()

"""The interface as it is written, the form of the code, and what README.md shows."""

import ast
import builtins
import importlib
import inspect
import os
import unittest

TOP = os.path.dirname(os.path.dirname(os.path.abspath(__file__)))
PACKAGE = os.path.join(TOP, "rankpicks")

FIELDS = {"value": ["InvalidName", "InvalidNumber", "InvalidTree", "InvalidLot", "InvalidList", "InvalidReport",
                    "InvalidLevels"], "spot": ["InvalidText"], "which": ["Unknown", "Lacking"]}
BOTH = {"__len__": "(self)", "names": "(self)", "passes": "(self, names)", "nodes": "(self)", "mirror": "(self)",
        "renamed": "(self, pairs)", "put": "(self, name, other)"}
CLASSES = {
    "rankpicks.errors": {name: {"__init__": f"(self, {field}=None)"} for field in FIELDS for name in FIELDS[field]},
    "rankpicks.trees": {"Tree": {}, "Leaf": {"__init__": "(self, name)", **BOTH},
                        "Group": {"__init__": "(self, ranks, parts)", **BOTH}},
    "rankpicks.lots": {"Lot": {"__init__": "(self, pairs=None)", "__len__": "(self)", "drop": "(self, name)",
                               "names": "(self)", "pairs": "(self)", "upto": "(self, worth)",
                               "below": "(self, worth)", "copy": "(self)"}},
    "rankpicks.towers": {"Tower": {"__init__": "(self, levels)", "mirror": "(self)", "build": "(self, names)"}},
    "rankpicks.reports": {"Report": {"__init__": "(self, tree, told)", "upto": "(self, worth)"}},
    "rankpicks.desks": {"Desk": {"__init__": "(self, tree, lot=None)", "__len__": "(self)", "forget": "(self, name)",
                                 "between": "(self, j=1)", "matters": "(self, j=1)", "end": "(self, j=1)",
                                 "what_if": "(self, name, worth, j=1)", "back": "(self)", "copy": "(self)"}},
}
SIGNS = {"Leaf": ["__contains__", "__eq__"], "Group": ["__contains__", "__eq__", "__getitem__"],
         "Lot": ["__contains__", "__eq__", "__getitem__", "__setitem__"], "Tower": ["__eq__", "__mul__"],
         "Desk": ["__contains__", "__getitem__", "__setitem__"]}
PROPERTIES = {"Leaf": ["name", "width"], "Group": ["ranks", "parts", "intake", "width"],
              "Tower": ["levels", "size", "least", "greatest"], "Report": ["tree", "told"],
              "Desk": ["tree", "lot", "made"]}
FUNCTIONS = {
    "rankpicks.lots": {"lot_of": "(names)", "ends_of": "(tree, lot)", "end_of": "(tree, lot, j=1)",
                       "outs_of": "(tree, lot)"},
    "rankpicks.counts": {"least_rank": "(tree, j=1)", "greatest_rank": "(tree, j=1)", "low_names": "(tree, j=1)",
                         "high_names": "(tree, j=1)", "count_table": "(tree)", "is_count_table": "(tree, claim)"},
    "rankpicks.places": {"rank_span": "(tree, j=1)", "rank_in": "(tree, lot, j=1)", "order_at": "(tree, rank, j=1)"},
    "rankpicks.chances": {"set_counts": "(tree, j=1)", "order_counts": "(tree, j=1)", "mean_rank": "(tree, j=1)"},
    "rankpicks.leaps": {"leap_of": "(tree, name, j=1)", "leap_lots": "(tree, name, j=1)"},
    "rankpicks.changes": {"fewest": "(tree, lot, bound, j=1, *, up=False, prices=None)"},
    "rankpicks.compare": {"parting": "(one, other, j=1, k=1)", "alike": "(one, other)", "is_simple": "(tree)",
                          "normal": "(tree)"},
    "rankpicks.reports": {"few_lot": "(report, worth)", "many_lot": "(report, worth)",
                          "known_counts": "(reports, worth)", "kth": "(reports, rank)"},
    "rankpicks.partial": {"between": "(tree, lot, j=1)", "matters": "(tree, lot, j=1)", "decides": "(tree, lot, j=1)"},
    "rankpicks.texts": {"write_tree": "(tree)", "read_tree": "(text)", "write_lot": "(lot)", "read_lot": "(text)"},
}

ALLOWED = """len range enumerate zip min max sum abs sorted reversed int str bool list tuple dict set isinstance ord repr
any all divmod NotImplemented ValueError TypeError KeyError IndexError LookupError property staticmethod classmethod
super""".split()
SPECIAL = """__init__ __eq__ __len__ __iter__ __contains__ __getitem__ __setitem__ __mul__""".split()


def sources():
    """The text of each file of the package, by its name."""
    texts = {}
    for folder, folders, files in os.walk(PACKAGE):
        folders[:] = [name for name in folders if name != "__pycache__"]
        for name in files:
            with open(os.path.join(folder, name), encoding="utf-8") as file:
                texts[os.path.relpath(os.path.join(folder, name), PACKAGE)] = file.read()
    return texts


class Interface(unittest.TestCase):
    def test_classes_and_their_methods(self):
        for module, classes in CLASSES.items():
            for name, methods in classes.items():
                found = getattr(importlib.import_module(module), name)
                self.assertEqual((found.__module__, found.__name__), (module, name))
                for method, signature in methods.items():
                    self.assertIn(method, vars(found), name)
                    self.assertEqual(str(inspect.signature(vars(found)[method])), signature, (name, method))
                for method in SIGNS.get(name, []):
                    self.assertTrue(inspect.isfunction(vars(found)[method]), (name, method))
                for attribute in PROPERTIES.get(name, []):
                    self.assertIsInstance(vars(found)[attribute], property, (name, attribute))

    def test_functions(self):
        for module, functions in FUNCTIONS.items():
            for name, signature in functions.items():
                found = getattr(importlib.import_module(module), name)
                self.assertEqual((found.__module__, str(inspect.signature(found))), (module, signature))


class Form(unittest.TestCase):
    def test_files(self):
        texts = sources()
        self.assertIn("__init__.py", texts)
        for name, text in texts.items():
            self.assertRegex(name, r"\A[a-z_][a-z0-9_]*\.py\Z")
            self.assertRegex(text, r"\A[\n -~]*\Z", name)
            lines = text.split("\n")
            self.assertLess(len(lines), 400, name)
            self.assertLessEqual(max(len(line) for line in lines), 120, name)

    def test_functions_are_small(self):
        for name, text in sources().items():
            for node in ast.walk(ast.parse(text)):
                if isinstance(node, ast.FunctionDef):
                    self.assertLessEqual(node.end_lineno - node.lineno + 1, 40, (name, node.name))
                    if node.name.startswith("__"):
                        self.assertIn(node.name, SPECIAL, name)

    def test_only_what_the_subset_has(self):
        barred = (ast.GeneratorExp, ast.AsyncFunctionDef, ast.Await, ast.Import, ast.Global, ast.Div)
        for name, text in sources().items():
            for node in ast.walk(ast.parse(text)):
                where = (name, getattr(node, "lineno", 0))
                self.assertNotIsInstance(node, barred, where)
                if isinstance(node, ast.ImportFrom):
                    self.assertEqual(node.level, 0, where)
                    if node.module == "math":
                        self.assertLessEqual({found.name for found in node.names}, {"factorial", "gcd"}, where)
                    else:
                        self.assertTrue(node.module.startswith("rankpicks."), where)
                if isinstance(node, ast.Name) and hasattr(builtins, node.id):
                    self.assertIn(node.id, ALLOWED, where)
                if isinstance(node, ast.Constant):
                    self.assertNotIsInstance(node.value, (float, complex), where)

    def test_the_package_holds_nothing_else(self):
        for module in list(CLASSES) + list(FUNCTIONS):
            self.assertIn(module.split(".")[1] + ".py", sources())


class Readme(unittest.TestCase):
    def test_the_lines_of_the_examples_say_what_they_give(self):
        with open(os.path.join(TOP, "README.md"), encoding="utf-8") as file:
            codes = [rest.split("```")[0] for rest in file.read().split("```python\n")[1:]]
        shown = []
        for code in codes:
            names, told_here = {}, 0
            for line in code.split("\n"):
                call, _, told = line.partition("  # ")
                if told:
                    self.assertEqual(repr(eval(call, names)), told)
                    told_here += 1
                else:
                    exec(call, names)
            shown.append(told_here)
        self.assertEqual(shown, [6, 10, 11, 16])


if __name__ == "__main__":
    unittest.main()

"""The form of the package: its names stand where the document lists them, in the small language it is written in."""

import ast
import os
import re
import unittest

FOLDER = os.path.join(os.path.dirname(os.path.dirname(os.path.abspath(__file__))), "hintslie")
INTERFACE = {
    "systems": {"System": ["__init__", "moves", "requests", "posts", "names", "way", "served", "__eq__"]},
    "machines": {"Machine": ["__init__", "turns", "states", "lets", "__eq__"], "free_machine": None},
    "wisest": {"wisest": None, "floor": None, "is_floor": None},
    "knowledge": {"first_offsets": None, "after_request": None},
    "views": {"is_view": None, "first_view": None, "asks": None, "answered": None, "views": None},
    "tables": {"kept": None, "table": None, "is_table": None, "least_sum": None},
    "liars": {"liar": None, "is_liar": None},
    "shares": {"least_share": None, "least_charge": None},
    "borders": {"border": None},
    "presses": {"press": None, "is_press": None},
    "styles": {
        "style_post": None, "style_share": None, "style_sum": None, "worst_round": None, "is_worst_round": None,
    },
    "rules": {"rule": None, "is_rule": None},
    "matches": {
        "Match": [
            "__init__", "view", "asked", "rounds", "paid", "wisest", "lies", "ask", "answer", "balance", "back",
            "history", "copy", "trying",
        ],
        "played": None,
    },
    "builds": {"renting": None, "rooms": None, "rows": None, "walkers": None},
    "changes": {"beside": None, "folded": None, "times": None, "turned": None, "without": None},
    "blames": {"blamed": None},
    "texts": {"system_text": None, "machine_text": None, "view_text": None},
    "reading": {"read_system": None, "read_machine": None, "read_view": None},
    "lies": {"counted_sums": None, "counted_table": None, "is_counted_table": None},
    "rounds": {"rounds_sum": None, "cruelest": None},
    "memory": {"memory": None, "is_memory": None, "lesser_machine": None},
    "histories": {"history_text": None, "read_history": None},
    "edits": {"with_request": None, "without_request": None, "with_step": None, "both": None},
    "desk": {"Desk": ["__init__", "tell", "undoable", "would"]},
}
LIBRARY = {
    "heapq": {"heapify", "heappop", "heappush"}, "math": {"gcd"}, "itertools": {"combinations", "permutations"},
}
BUILTINS = {
    "len", "range", "enumerate", "zip", "min", "max", "sum", "abs", "sorted", "reversed", "int", "str", "bool", "list",
    "tuple", "dict", "set", "isinstance", "any", "all", "ValueError",
}
METHODS = {"append", "extend", "get", "index", "items", "join", "keys", "pop", "split", "values"}


def sources():
    found = {}
    for name in sorted(os.listdir(FOLDER)):
        if name != "__pycache__":
            with open(os.path.join(FOLDER, name), encoding="utf-8") as file:
                found[name] = file.read()
    return found


class FormTest(unittest.TestCase):
    def setUp(self):
        self.texts = sources()
        self.trees = {name: ast.parse(text) for name, text in self.texts.items()}

    def walk(self):
        for name, tree in self.trees.items():
            for node in ast.walk(tree):
                yield name, node

    def test_files(self):
        for name, text in self.texts.items():
            self.assertRegex(name, r"\A[a-z_]+\.py\Z")
            self.assertTrue(text.isascii() and "\t" not in text and "\r" not in text, name)
            lines = text.split("\n")
            self.assertLess(len(lines), 400)
            self.assertLessEqual(max(len(line) for line in lines), 120, name)
            self.assertTrue(ast.get_docstring(self.trees[name]), name)

    def test_interface_is_defined_in_its_files(self):
        for module, told in INTERFACE.items():
            tree = self.trees[module + ".py"]
            defined = {node.name: node for node in tree.body if isinstance(node, (ast.FunctionDef, ast.ClassDef))}
            for name, members in told.items():
                self.assertIn(name, defined)
                if members is not None:
                    methods = {node.name for node in defined[name].body if isinstance(node, ast.FunctionDef)}
                    assigned = {
                        node.attr for node in ast.walk(defined[name])
                        if isinstance(node, ast.Attribute) and isinstance(node.ctx, ast.Store)
                    }
                    self.assertEqual(set(members) - methods - assigned, set())

    def test_functions(self):
        for name, node in self.walk():
            if isinstance(node, ast.FunctionDef):
                self.assertLessEqual(node.end_lineno - node.lineno + 1, 40, (name, node.name))
                decorators = [ast.unparse(one) for one in node.decorator_list]
                self.assertIn(decorators, ([], ["property"]))
                self.assertTrue(ast.get_docstring(node) or node.name[0] == "_", (name, node.name))

    def test_imports(self):
        for name, node in self.walk():
            self.assertNotIsInstance(node, ast.Import)
            if isinstance(node, ast.ImportFrom):
                words = {alias.name for alias in node.names}
                if node.module in LIBRARY:
                    self.assertLessEqual(words, LIBRARY[node.module])
                else:
                    package, _, module = node.module.partition(".")
                    self.assertEqual(package, "hintslie")
                    body = self.trees[module + ".py"].body
                    defined = {one.name for one in body if isinstance(one, (ast.FunctionDef, ast.ClassDef))}
                    defined |= {one.targets[0].id for one in body if isinstance(one, ast.Assign)}
                    self.assertLessEqual(words, defined, name)

    def test_no_circles_of_imports(self):
        needs = {
            name: {node.module.partition(".")[2] + ".py" for node in ast.walk(tree)
                   if isinstance(node, ast.ImportFrom) and node.module not in LIBRARY}
            for name, tree in self.trees.items()
        }
        while needs:
            free = [name for name in needs if not needs[name]]
            self.assertTrue(free, needs)
            needs = {name: need - set(free) for name, need in needs.items() if name not in free}

    def test_plain_values_and_statements(self):
        barred = (
            ast.Global, ast.Nonlocal, ast.AsyncFunctionDef, ast.Await, ast.GeneratorExp, ast.Yield, ast.YieldFrom,
            ast.Div, ast.With, ast.Lambda, ast.AnnAssign, ast.JoinedStr,
        )
        for name, node in self.walk():
            self.assertNotIsInstance(node, barred, (name, getattr(node, "lineno", 0)))
            if isinstance(node, ast.Constant):
                self.assertNotIsInstance(node.value, (float, complex))
            if isinstance(node, ast.Compare) and any(isinstance(op, (ast.Is, ast.IsNot)) for op in node.ops):
                self.assertTrue(all(isinstance(side, ast.Constant) for side in node.comparators), name)

    def test_stars(self):
        for name, node in self.walk():
            if isinstance(node, ast.Call):
                for one in node.args:
                    if isinstance(one, ast.Starred):
                        self.assertIsInstance(one.value, (ast.Name, ast.Attribute), name)
                self.assertTrue(all(one.arg for one in node.keywords), name)

    def test_the_library_is_iterated_at_once(self):
        for name, tree in self.trees.items():
            parents = {child: node for node in ast.walk(tree) for child in ast.iter_child_nodes(node)}
            for node in ast.walk(tree):
                if isinstance(node, ast.Call) and isinstance(node.func, ast.Name):
                    if node.func.id in LIBRARY["itertools"] | {"zip", "enumerate", "reversed"}:
                        self.assertIsInstance(parents[node], (ast.Call, ast.For, ast.comprehension), name)
                        if isinstance(parents[node], ast.Call):
                            self.assertIn(parents[node].func.id, {"list", "tuple", "enumerate", "zip", "sorted"}, name)

    def test_finally_has_plain_assignments_alone(self):
        for name, node in self.walk():
            if isinstance(node, ast.Try):
                for one in node.finalbody:
                    self.assertIsInstance(one, ast.Assign, name)
                    told = one.value.elts if isinstance(one.value, ast.Tuple) else [one.value]
                    self.assertTrue(all(isinstance(item, ast.Name) for item in told), name)

    def test_own_errors_alone_are_caught(self):
        own = {node.name for node in self.trees["errors.py"].body if isinstance(node, ast.ClassDef)}
        for name, node in self.walk():
            if isinstance(node, ast.ExceptHandler):
                kinds = node.type.elts if isinstance(node.type, ast.Tuple) else [node.type]
                self.assertLessEqual({kind.id for kind in kinds}, own, name)

    def test_builtins_and_methods(self):
        own = {node.name for _, node in self.walk() if isinstance(node, (ast.FunctionDef, ast.ClassDef))}
        # A function may be passed, and is called by the name of a parameter then.
        own |= {node.arg for _, node in self.walk() if isinstance(node, ast.arg)}
        library = set().union(*LIBRARY.values())
        for name, node in self.walk():
            if isinstance(node, ast.Call) and isinstance(node.func, ast.Name):
                self.assertIn(node.func.id, own | library | BUILTINS, name)
            if isinstance(node, ast.Call) and isinstance(node.func, ast.Attribute):
                self.assertIn(node.func.attr, own | METHODS, name)

    def test_names(self):
        barred = r"\b(type|typing|enum|Enum|Flag|Generic|Protocol|ABC|NamedTuple|TypedDict|law|open|input)\b"
        for name, node in self.walk():
            words = [getattr(node, field, None) for field in ("id", "attr", "arg", "name")]
            if isinstance(node, ast.Constant) and isinstance(node.value, str) and len(node.value) < 30:
                words.append(node.value)
            for word in words:
                if isinstance(word, str):
                    self.assertIsNone(re.search(barred, word), (name, word))
                    self.assertNotIn("%", word)

    def test_no_name_hides_another(self):
        hidden = set(dir(__builtins__)) if not isinstance(__builtins__, dict) else set(__builtins__)
        for name, tree in self.trees.items():
            imported = {alias.name for node in tree.body if isinstance(node, ast.ImportFrom) for alias in node.names}
            classes = {node.name for node in tree.body if isinstance(node, ast.ClassDef)}
            for node in ast.walk(tree):
                words = []
                if isinstance(node, ast.Name) and isinstance(node.ctx, ast.Store):
                    words.append(node.id)
                if isinstance(node, ast.arg):
                    words.append(node.arg)
                for word in words:
                    self.assertNotIn(word, imported | classes | hidden, (name, node.lineno))


if __name__ == "__main__":
    unittest.main()

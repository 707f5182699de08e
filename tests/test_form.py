"""The form of the package: its interface, and what of the rules of its language can be told of each file."""

import ast
import builtins
import importlib
import inspect
import pathlib
import re
import unittest

from neverleapt import errors

PACKAGE = pathlib.Path(__file__).resolve().parent.parent / "neverleapt"

INTERFACE = {
    "machines": {
        "Machine": ["standings", "events"], "is_run": ["machine", "thing"], "ends_at": ["machine", "run"],
        "boards": ["machine", "run"], "shares": ["machine", "run"],
    },
    "knots": {"reached": ["machine"], "knots": ["machine"], "hangs": ["machine"]},
    "changes": {
        "mirrored": ["machine"], "shifted": ["machine", "by"], "scaled": ["machine", "by"],
        "struck": ["machine", "events"], "parted": ["machine", "event", "tries", "points"],
        "bundled": ["machine", "many"],
    },
    "phrases": {"is_phrase": ["thing"], "is_told": ["phrase", "thing"], "spoken": ["phrase"]},
    "phrasetexts": {"phrase_text": ["phrase"], "read_phrase": ["text"]},
    "rings": {
        "lift": ["machine", "share", "event"], "value": ["machine", "share", "run"],
        "measure": ["machine", "share", "standing"], "lead": ["machine", "share", "one", "other"],
        "net": ["machine", "standing"], "area": ["machine", "standing"], "ends": ["machine", "standing"],
        "end_rings": ["machine", "standing"], "is_balanced": ["machine", "thing"],
    },
    "lots": {
        "Lot": ["low", "high", "members", "step", "below", "above"], "is_in": ["lot", "thing"],
        "is_part": ["lot", "second"], "lot_of": ["numbers"], "every": ["step", "rest"], "joined": ["lot", "second"],
        "common": ["lot", "second"], "lacking": ["lot"], "moved": ["lot", "by"], "least_in": ["lot"],
        "greatest_in": ["lot"], "next_below": ["lot", "number"], "next_above": ["lot", "number"],
        "many_in": ["lot", "one", "other"],
    },
    "tables": {
        "values": ["machine", "share"], "is_closed": ["machine", "share", "thing"],
        "is_table": ["machine", "share", "way", "thing"], "table_fault": ["machine", "share", "way", "thing"],
    },
    "verdicts": {"never": ["machine", "share", "way"], "rule": ["machine", "share", "way"]},
    "leaping": {
        "leap": ["machine", "share", "way"], "leap_behind": ["machine", "share", "way", "tries"],
        "late_leap": ["machine", "share", "way", "tries"], "is_leap": ["machine", "share", "way", "thing"],
        "leaps": ["machine", "share", "way", "run"], "meets": ["machine", "share", "run"],
        "widest": ["machine", "share", "way"],
    },
    "stretches": {
        "all_never": ["machine", "low", "high", "way"], "never_with": ["machine", "bottom", "way"],
        "unlike_never": ["machine", "other", "low", "high", "way"],
    },
    "betweens": {
        "between": ["machine", "first", "last", "share"], "often": ["machine", "first", "last", "share"],
        "often_run": ["machine", "first", "last", "share", "most"], "surely_met": ["machine", "first", "last"],
    },
    "marking": {
        "mark": ["share", "places", "how"], "marks": ["machine", "run", "places", "how"],
        "last_leap": ["machine", "places", "how", "told", "way"],
        "last_leap_run": ["machine", "places", "how", "told", "way"],
    },
    "mends": {
        "fewest_struck": ["machine", "share", "way"], "is_mend": ["machine", "share", "way", "thing"],
        "least_shown": ["machine", "share", "way", "most"],
    },
    "counts": {
        "many_runs": ["machine", "many"], "many_leaping": ["machine", "share", "way", "many"],
        "many_meeting": ["machine", "share", "many"], "run_at": ["machine", "many", "number"],
        "run_number": ["machine", "run"],
    },
    "chances": {
        "chance": ["machine", "share", "way", "weights", "many"],
        "meeting_chance": ["machine", "share", "weights", "many"],
    },
    "logs": {
        "fitting": ["machine", "log"], "first_wrong": ["machine", "log"], "next_shares": ["machine", "log"],
        "surely_leapt": ["machine", "log", "share", "way"],
    },
    "live": {"Board": ["machine"]},
    "texts": {"share_text": ["share"], "machine_text": ["machine"], "lot_text": ["lot"], "table_text": ["table"]},
    "reading": {"read_share": ["text"], "read_machine": ["text"], "read_lot": ["text"], "read_table": ["text"]},
    "desk": {"Desk": []},
}
METHODS_OF = {
    ("machines", "Machine"): {"__eq__": ["other"]},
    ("lots", "Lot"): {"__eq__": ["other"]},
    ("live", "Board"): {
        "come": ["event"], "shown": [], "share": [], "standing": [], "past": [], "can_come": [],
        "leapt": ["share", "way"], "met": ["share"], "can_leap": ["share", "way"], "back": [], "copy": [],
        "trying": ["action"],
    },
    ("desk", "Desk"): {"tell": ["line"], "undoable": []},
}

LIBRARY = {
    "math": {"gcd", "lcm", "isqrt", "comb", "perm", "factorial"},
    "heapq": {"heappush", "heappop", "heapify", "heapreplace", "heappushpop"},
    "itertools": {"combinations", "permutations", "product"},
}
BUILTINS = set(
    "len range enumerate zip min max sum abs sorted reversed int str bool list tuple dict set isinstance ord repr "
    "any all divmod Exception ValueError TypeError KeyError IndexError LookupError".split()
)
METHODS = set(
    "append clear copy count endswith extend find get index insert isalnum isalpha isdigit islower isspace isupper "
    "items join keys ljust lower lstrip partition pop remove replace reverse rfind rjust rpartition rsplit rstrip "
    "setdefault split splitlines startswith strip update upper values zfill bit_length add discard".split()
)
NEVER = (
    ast.Global, ast.Nonlocal, ast.AsyncFunctionDef, ast.AsyncFor, ast.AsyncWith, ast.Await, ast.Div, ast.Pow,
    ast.AnnAssign, ast.Lambda, ast.With, ast.GeneratorExp, ast.Yield, ast.YieldFrom, ast.Delete,
)
PREFIXES = (
    "__", "_wall", "_pe_", "_dcw_", "_enum_", "_cm_", "_twin_re_", "_lay_", "_law_", "_stub_", "_sre", "_WallAttr",
    "_cold", "_tuplegetter", "_outside", "_record", "_written_out", "_member_names",
)
BARRED = set("register mro elements open input law version_info type typing enum id compile vars dir exit os".split())


class Interface(unittest.TestCase):

    def test_names_and_arguments(self):
        for file, names in INTERFACE.items():
            module = importlib.import_module("neverleapt." + file)
            for name, arguments in names.items():
                with self.subTest(name):
                    told = getattr(module, name)
                    self.assertEqual(list(inspect.signature(told).parameters), arguments)
                    self.assertEqual(told.__module__, "neverleapt." + file)

    def test_methods_stand_in_their_class(self):
        for (file, name), methods in METHODS_OF.items():
            told = getattr(importlib.import_module("neverleapt." + file), name)
            for method, arguments in methods.items():
                with self.subTest(name, method=method):
                    self.assertIn(method, vars(told))
                    self.assertEqual(list(inspect.signature(vars(told)[method]).parameters), ["self"] + arguments)


class Files(unittest.TestCase):

    def each(self):
        """Each file of the package with its text and its tree."""
        paths = [path for path in sorted(PACKAGE.iterdir()) if path.name != "__pycache__"]
        texts = [path.read_text(encoding="utf-8") for path in paths]
        return [(path, text, ast.parse(text, path.name)) for path, text in zip(paths, texts)]

    def test_folder(self):
        self.assertTrue((PACKAGE / "__init__.py").exists())
        for path, _, _ in self.each():
            self.assertRegex(path.name, r"^[a-z_][a-z0-9_]*\.py$")

    def test_sizes_and_signs(self):
        for _, text, tree in self.each():
            lines = text.splitlines()
            self.assertLessEqual(len(lines), 399)
            self.assertLessEqual(max(len(line) for line in lines), 120)
            self.assertTrue(all(" " <= sign <= "~" or sign == "\n" for sign in text))
            self.assertTrue(text.endswith("\n") and not text.endswith("\n\n"))
            for node in ast.walk(tree):
                if isinstance(node, ast.FunctionDef):
                    self.assertLessEqual(node.end_lineno - node.lineno + 1, 40, node.name)
                    self.assertEqual(node.decorator_list, [])

    def test_module_level(self):
        for _, _, tree in self.each():
            for place, node in enumerate(tree.body):
                docstring = place == 0 and isinstance(node, ast.Expr) and isinstance(node.value, ast.Constant)
                self.assertTrue(docstring or isinstance(
                    node, (ast.ImportFrom, ast.FunctionDef, ast.ClassDef, ast.Assign)), ast.dump(node)[:80])

    def test_imports(self):
        steps = {}
        for path, _, tree in self.each():
            steps[path.stem] = []
            for node in ast.walk(tree):
                self.assertNotIsInstance(node, ast.Import)
                if isinstance(node, ast.ImportFrom):
                    self.assertTrue(all(one.asname is None for one in node.names))
                    if node.module in LIBRARY:
                        self.assertTrue(all(one.name in LIBRARY[node.module] for one in node.names))
                        continue
                    self.assertTrue(node.level == 0 and node.module.startswith("neverleapt."))
                    steps[path.stem].append(node.module.partition(".")[2])
                    told = ast.parse((PACKAGE / (steps[path.stem][-1] + ".py")).read_text(encoding="utf-8"))
                    for one in node.names:
                        self.assertIn(one.name, self.bound(told), path.name)
        while steps:
            ready = [file for file, others in steps.items() if not any(other in steps for other in others)]
            self.assertTrue(ready, "files import from each other")
            steps = {file: others for file, others in steps.items() if file not in ready}

    def bound(self, tree):
        """The names that a file itself defines."""
        names = [node.name for node in tree.body if isinstance(node, (ast.FunctionDef, ast.ClassDef))]
        return names + [node.targets[0].id for node in tree.body if isinstance(node, ast.Assign)]

    def test_statements(self):
        for path, _, tree in self.each():
            for node in ast.walk(tree):
                self.assertNotIsInstance(node, NEVER, path.name)
                if isinstance(node, ast.Compare):
                    for sign, other in zip(node.ops, node.comparators):
                        if isinstance(sign, (ast.Is, ast.IsNot)):
                            self.assertIsInstance(other, ast.Constant)
                if isinstance(node, ast.Constant) and isinstance(node.value, str):
                    self.assertNotIn("%", node.value)
                if isinstance(node, ast.ExceptHandler):
                    self.assertIn(node.type.id, vars(errors), path.name)
                    self.assertIsNone(node.name)
                if isinstance(node, (ast.For, ast.comprehension)) and isinstance(node.iter, ast.Call):
                    self.assertNotIn(ast.unparse(node.iter.func), ("set", "frozenset"))

    def test_names(self):
        for path, _, tree in self.each():
            taken = [node.name for node in tree.body if isinstance(node, ast.ClassDef)]
            for node in tree.body:
                if isinstance(node, ast.ImportFrom):
                    taken += [one.name for one in node.names]
            bound = self.bound(tree) + [name for name in taken if name not in self.bound(tree)]
            self.assertEqual(len(bound), len(set(bound)))
            for node in ast.walk(tree):
                names = [node.arg] if isinstance(node, ast.arg) else []
                if isinstance(node, ast.Name) and isinstance(node.ctx, ast.Store):
                    names = [node.id]
                for name in names:
                    self.assertNotIn(name, taken)
                if isinstance(node, (ast.FunctionDef, ast.ClassDef)):
                    names = [node.name]
                for name in names:
                    self.assertNotIn(name, vars(builtins))
                    self.assertNotIn(name, BARRED)
                    self.assertFalse(name.startswith(PREFIXES) and name not in ("__init__", "__eq__"), name)

    def test_nothing_idle(self):
        for path, _, tree in self.each():
            used = {node.id for node in ast.walk(tree) if isinstance(node, ast.Name)}
            for node in tree.body:
                if isinstance(node, ast.ImportFrom):
                    self.assertEqual([one.name for one in node.names if one.name not in used], [], path.name)
                    self.assertEqual([one.name for one in node.names], sorted(
                        [one.name for one in node.names], key=lambda name: (name.lower() == name, name)), path.name)
        texts = " ".join(text for _, text, _ in self.each())
        for path, _, tree in self.each():
            for name in self.bound(tree):
                told = name in INTERFACE.get(path.stem, {}) or path.stem == "errors"
                self.assertTrue(told or len(re.findall(rf"\b{name}\b", texts)) > 1, name)

    def test_calls(self):
        own = {
            node.name for _, _, tree in self.each() for kind in tree.body if isinstance(kind, ast.ClassDef)
            for node in kind.body if isinstance(node, ast.FunctionDef)
        }
        for path, _, tree in self.each():
            known = set(self.bound(tree)) | BUILTINS
            for node in tree.body:
                if isinstance(node, ast.ImportFrom):
                    known |= {one.name for one in node.names}
            for node in ast.walk(tree):
                if isinstance(node, ast.Call) and isinstance(node.func, ast.Name):
                    # Functions out of a table, and those that are passed.
                    if (path.stem, node.func.id) not in (("desk", "answer"), ("live", "action")):
                        self.assertIn(node.func.id, known, path.name)
                if isinstance(node, ast.Call) and isinstance(node.func, ast.Attribute):
                    self.assertIn(node.func.attr, METHODS | own, path.name)


if __name__ == "__main__":
    unittest.main()

"""The form of the package: what ../shared/LANGUAGE.md says that can be seen from its text."""

import ast
import os
import re
import unittest

HERE = os.path.dirname(os.path.dirname(os.path.abspath(__file__)))
PACKAGE = os.path.join(HERE, "wheelreach")
BUILTINS = {
    "len", "range", "enumerate", "zip", "min", "max", "sum", "abs", "sorted", "reversed", "int", "str", "bool", "list",
    "tuple", "dict", "set", "isinstance", "ord", "repr", "any", "all", "divmod", "iter", "next", "super", "property",
    "staticmethod", "classmethod", "ValueError", "NotImplemented", "KeyError", "ZeroDivisionError"}
EVERY_BUILTIN = set(dir(__import__("builtins")))
METHODS = set((
    "append clear copy count endswith extend find get index insert isalnum isalpha isdigit islower isspace isupper "
    "items join keys ljust lower lstrip partition pop remove replace reverse rfind rjust rpartition rsplit rstrip "
    "setdefault split splitlines startswith strip update upper values zfill bit_length isascii").split())
OPERATORS = set((
    "__init__ __eq__ __repr__ __str__ __len__ __enter__ __exit__ __call__ __iter__ __add__ __sub__ __mul__ "
    "__floordiv__ __mod__ __and__ __or__ __neg__ __invert__ __bool__ __contains__ __getitem__ __setitem__").split())
BARRED = set((
    "register mro elements open input law version_info with_traceback add_note attrgetter breakpoint builtins compile "
    "copyright credits delattr dir eval exec exit gc getattr globals hasattr help id importlib license locals "
    "methodcaller os quit setattr type vars sys").split())
LIBRARY = {"heapq": {"heappush", "heappop", "heapify", "heapreplace", "heappushpop"},
           "math": {"gcd", "lcm", "isqrt", "comb", "perm", "factorial"}}


def sources():
    rows = []
    for folder, _, files in os.walk(PACKAGE):
        if os.path.basename(folder) == "__pycache__":
            continue
        for name in sorted(files):
            with open(os.path.join(folder, name), encoding="utf-8") as file:
                rows.append((name, file.read()))
    return rows


def trees():
    return [(name, ast.parse(text)) for name, text in sources()]


class Form(unittest.TestCase):
    def test_files(self):
        self.assertLessEqual(len(sources()), 100)
        for name, text in sources():
            self.assertRegex(name, r"^[a-z0-9_]+\.py$")
            rows = text.split("\n")
            self.assertLessEqual(len(rows), 400, name)
            for at, row in enumerate(rows):
                self.assertLessEqual(len(row), 120, (name, at + 1))
                self.assertRegex(row, r"^[ -~]*$", (name, at + 1))
            self.assertNotRegex(text, r"\(type\)|Meta|metaclass=|_wall|\btyping\b|\benum\b")

    def test_functions(self):
        generators, names = [], []
        for name, tree in trees():
            for node in ast.walk(tree):
                if isinstance(node, (ast.FunctionDef, ast.ClassDef)):
                    self.assertTrue(ast.get_docstring(node) or node.name.startswith("__"), (name, node.name))
                if isinstance(node, ast.FunctionDef):
                    self.assertLessEqual(node.end_lineno - node.lineno + 1, 40, (name, node.name))
                    names.append(node.name)
                    if any(isinstance(inner, (ast.Yield, ast.YieldFrom)) for inner in ast.walk(node)):
                        generators.append(node.name)
                    for mark in node.decorator_list:
                        self.assertIn(ast.unparse(mark).split(".")[-1], ("property", "staticmethod", "setter"))
                    self.assertIsNone(node.returns)
        for generator in generators:
            self.assertEqual(names.count(generator), 1, generator)
            self.assertNotIn(generator, METHODS)

    def test_imports(self):
        owned = {name[:-3]: {node.name for node in tree.body if isinstance(node, (ast.FunctionDef, ast.ClassDef))}
                 | {ast.unparse(node.targets[0]) for node in tree.body if isinstance(node, ast.Assign)}
                 for name, tree in trees()}
        uses = {}
        for name, tree in trees():
            uses[name[:-3]] = set()
            text = dict(sources())[name]
            for node in ast.walk(tree):
                self.assertNotIsInstance(node, ast.Import)
                if not isinstance(node, ast.ImportFrom):
                    continue
                self.assertEqual(node.level, 0)
                for alias in node.names:
                    self.assertIsNone(alias.asname)
                    self.assertGreater(len(re.findall(rf"\b{alias.name}\b", text)), 1, (name, alias.name))
                if node.module in LIBRARY:
                    self.assertLessEqual({alias.name for alias in node.names}, LIBRARY[node.module])
                    continue
                package, module = node.module.split(".")
                self.assertEqual(package, "wheelreach")
                uses[name[:-3]].add(module)
                self.assertLessEqual({alias.name for alias in node.names}, owned[module], (name, module))
        left = dict(uses)
        while left:
            free = [name for name in left if not left[name] & set(left)]
            self.assertTrue(free, f"files import one another: {sorted(left)}")
            for name in free:
                del left[name]

    def test_words_of_the_language(self):
        barred = (ast.Global, ast.AsyncFunctionDef, ast.AsyncFor, ast.AsyncWith, ast.Await, ast.Div)
        for name, tree in trees():
            for node in ast.walk(tree):
                self.assertNotIsInstance(node, barred, (name, getattr(node, "lineno", 0)))
                if isinstance(node, ast.Constant):
                    self.assertNotIsInstance(node.value, (float, complex, bytes))
                    if isinstance(node.value, str):
                        self.assertNotIn("%", node.value, (name, node.lineno))
                if isinstance(node, ast.BinOp) and isinstance(node.op, ast.Pow):
                    self.assertTrue(isinstance(node.right, ast.Constant) and 0 <= node.right.value <= 64, name)
                if isinstance(node, ast.Compare) and any(isinstance(op, (ast.Is, ast.IsNot)) for op in node.ops):
                    self.assertIn(ast.unparse(node.comparators[0]), ("None", "True", "False"))
                if isinstance(node, (ast.ListComp, ast.DictComp)):
                    self.assertLessEqual(len(node.generators), 6)

    def test_what_exit_does(self):
        for name, tree in trees():
            for node in ast.walk(tree):
                if not isinstance(node, ast.FunctionDef) or node.name != "__exit__":
                    continue
                for inner in node.body:
                    for row in inner.body if isinstance(inner, ast.If) else [inner]:
                        self.assertIsInstance(row, ast.Assign, (name, row.lineno))
                        self.assertIsInstance(row.targets[0], ast.Attribute, (name, row.lineno))
                        self.assertIsInstance(row.value, ast.Attribute, (name, row.lineno))
                    # the truth of an attribute is not asked there, since a class has __bool__
                    if isinstance(inner, ast.If):
                        self.assertIn(ast.unparse(inner.test), ("kind is None", "kind is not None"))

    def test_names(self):
        for name, tree in trees():
            defined = {node.name for node in tree.body if isinstance(node, (ast.FunctionDef, ast.ClassDef))}
            imported = {alias.name for node in tree.body if isinstance(node, ast.ImportFrom) for alias in node.names}
            classes = {node.name for node in tree.body if isinstance(node, ast.ClassDef)}
            for node in ast.walk(tree):
                if isinstance(node, ast.Name) and isinstance(node.ctx, ast.Load) and node.id in EVERY_BUILTIN:
                    self.assertIn(node.id, BUILTINS, (name, node.lineno))
                bound = None
                if isinstance(node, ast.Name) and isinstance(node.ctx, ast.Store):
                    bound = node.id
                if isinstance(node, ast.arg):
                    bound = node.arg
                    self.assertIsNone(node.annotation)
                if bound is not None:
                    self.assertNotIn(bound, EVERY_BUILTIN | BARRED | imported | classes, (name, node.lineno))
                    self.assertRegex(bound, r"^_?[A-Za-z][A-Za-z0-9_]*$|^_$")
                if isinstance(node, ast.FunctionDef):
                    self.assertNotIn(node.name, BARRED)
                    if node.name.startswith("__"):
                        self.assertIn(node.name, OPERATORS)
                if isinstance(node, ast.Attribute) and node.attr == "__name__":
                    self.assertRegex(ast.unparse(node), r"^[a-z]+\.__class__\.__name__$")
                elif isinstance(node, ast.Attribute) and node.attr.startswith("__"):
                    self.assertIn(node.attr, ("__init__", "__class__"))
            self.assertEqual(len(defined), len([node for node in tree.body if hasattr(node, "name")]))

    def test_methods_of_builtin_values(self):
        own = set()
        for _, tree in trees():
            for node in ast.walk(tree):
                if isinstance(node, ast.FunctionDef):
                    own.add(node.name)
        for name, tree in trees():
            for node in ast.walk(tree):
                if isinstance(node, ast.Call) and isinstance(node.func, ast.Attribute):
                    self.assertIn(node.func.attr, own | METHODS, (name, node.lineno))

    def test_methods_stand_in_the_class_itself(self):
        listed = {
            "Lot": "every none around multiples read __len__ __iter__ __getitem__ __and__ __or__ __sub__ __invert__ "
                   "__add__ __neg__ __mul__ __floordiv__ __mod__ __contains__ is_within __eq__ at_least at_most "
                   "how_many nth each runs_between __str__",
            "Join": "__init__ __eq__", "Sure": "__init__ __eq__", "Unsure": "__init__ __eq__ __bool__",
            "Slip": "__init__ __eq__ __bool__", "Kept": "__init__ __eq__", "Drifts": "__init__ __eq__ __bool__",
            "Told": "__init__ __eq__", "Spread": "__init__ __eq__ __bool__", "Noticed": "__init__ __eq__ __bool__",
            "Nearest": "__init__ __eq__", "Trial": "keep __enter__ __exit__",
            "Follower": "__init__ span known deeds __len__ __iter__ __contains__ is_within hear __call__ move reach meter "
                        "undo trial tried begun replay twin __eq__",
            "Holds": "__init__ __eq__", "Fails": "__init__ __eq__ __bool__",
            "Train": "__init__ __len__ __iter__ __getitem__ __add__ stands again __eq__ __str__ read",
            "Shelf": "__init__ __setitem__ drop __getitem__ __contains__ __len__ __iter__ stock undo redo can_undo "
                     "can_redo cost chosen twin __eq__",
            "Cheapest": "__init__ __eq__", "NoChoice": "__init__ __eq__ __bool__", "Stretch": "__init__ __eq__",
            "Desk": "__init__ say __call__ run __len__ meter_now follower_now shelf_now __eq__ text_now read",
            "Wheel": "trusted play never_parts near __call__ each_mark lets shown_by does_part wider __mul__ __eq__ "
                     "__str__ read",
            "Even": "__init__", "Exact": "__init__", "Lagging": "__init__", "Grid": "__init__",
            "Meter": "spare __len__ __iter__ __getitem__ __call__ __add__ __mul__ wider without with_numbers parting "
                     "is_blind choices __eq__ __str__ read",
        }
        for _, tree in trees():
            for node in tree.body:
                if isinstance(node, ast.ClassDef) and node.name in listed:
                    there = {inner.name for inner in node.body if isinstance(inner, ast.FunctionDef)}
                    self.assertLessEqual(set(listed[node.name].split()), there, node.name)

    def test_interface_stands_in_its_files(self):
        listed = {
            "errors": "ReachError BadNumber BadLot BadWheel BadMeter BadMark BadValue BadGear BadShelf BadLog "
                      "BadFollower BadDeed BadText BadLine NoMember NoName NoPlace Unlike Unfit Nothing TooMany",
            "papers": "Paper", "numbers": "is_whole common multiple apart together", "lots": "Lot",
            "joins": "meeting join Join joined", "look_joins": "shows_join",
            "wheels": "Wheel Even Exact Lagging Grid", "meters": "Meter need_reading",
            "reaches": "pair_at next_blind last_blind blind_lots reach_of sure profile Unsure Sure",
            "look_reaches": "shows_sure", "windows": "least_window windows",
            "stairs": "stairs greatest_slip Slip", "look_stairs": "shows_slip",
            "speeds": "edge_of keeps greatest_spread Kept Drifts left_by sure_by_moves", "look_speeds": "shows_keeping",
            "readings": "fits told choices_of tables_of next_fit last_fit each_fit off_at Told Spread Noticed surely_off "
                        "maybe_off",
            "look_readings": "shows_told", "nearest": "strain nearest Nearest", "look_nearest": "shows_nearest",
            "follower": "Follower", "compared": "blind_lot tells_no_less Holds Fails are_alike",
            "look_compared": "shows_no_less", "gears": "Train meter_of reach_in", "shelf": "Shelf",
            "design": "cheapest Cheapest NoChoice frontier", "look_design": "shows_choice",
            "logs": "least_play plays wheels_off misread periods_that_fit Stretch",
            "texts": "reading_text runs_text shelf_text verdict_text",
            "reader": "read_reading read_shelf read_verdict", "desk": "Desk",
        }
        found = {name[:-3]: {node.name for node in tree.body if isinstance(node, (ast.FunctionDef, ast.ClassDef))}
                 for name, tree in trees()}
        for name, wanted in listed.items():
            self.assertLessEqual(set(wanted.split()), found[name], name)


if __name__ == "__main__":
    unittest.main()

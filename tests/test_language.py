"""The files of the package keep to LANGUAGE.md, as far as it can be read off their trees (often stricter than it)."""

import ast
import builtins
import unittest
from pathlib import Path

FOLDER = Path(__file__).resolve().parent.parent / "everrow"
FILES = sorted(FOLDER.glob("*.py"))
LIBRARY = {
    "heapq": {"heappush", "heappop", "heapify", "heapreplace", "heappushpop"},
    "math": {"gcd", "lcm", "isqrt", "comb", "perm", "factorial"},
    "itertools": {
        "product", "combinations", "permutations", "chain", "accumulate", "pairwise", "islice", "zip_longest",
    },
    "collections": {"deque", "defaultdict"},
}
BUILTINS = set(
    "len range enumerate zip min max sum abs sorted reversed int str bool bytes list tuple dict set isinstance ord "
    "repr any all divmod ValueError NotImplemented True False None".split()
)
METHODS = set(
    "append clear copy count endswith extend find get index insert isalnum isalpha isdigit islower isspace isupper "
    "items join keys ljust lower lstrip partition pop remove replace reverse rfind rjust rpartition rsplit rstrip "
    "setdefault split splitlines startswith strip update upper values zfill bit_length".split()
)
BARRED = set(
    "register mro elements open input law version_info with_traceback add_note attrgetter breakpoint builtins compile "
    "copyright credits delattr dir eval exec exit gc getattr globals hasattr help id importlib license locals "
    "methodcaller os quit setattr super type vars sys iter next map format".split()
)
REFUSED = (
    ast.Try, ast.Global, ast.Nonlocal, ast.With, ast.Yield, ast.YieldFrom, ast.Set, ast.SetComp, ast.GeneratorExp,
    ast.Await, ast.AsyncFor, ast.AsyncFunctionDef, ast.AsyncWith, ast.Match, ast.NamedExpr, ast.Starred, ast.AnnAssign,
    ast.Div, ast.MatMult, ast.Import, ast.Delete,
)
DOUBLE = {"__init__", "__eq__"}


def tree_of(path):
    return ast.parse(path.read_text(encoding="utf-8"))


def functions_in(tree):
    return [node for node in ast.walk(tree) if isinstance(node, ast.FunctionDef)]


def imports_of(tree):
    """Each name that is imported, with the module that it comes from."""
    return {alias.name: node.module for node in tree.body if isinstance(node, ast.ImportFrom) for alias in node.names}


def bound_names(tree):
    """The names that a file binds: parameters, variables, functions and classes."""
    found = [node.id for node in ast.walk(tree) if isinstance(node, ast.Name) and isinstance(node.ctx, ast.Store)]
    found += [node.arg for node in ast.walk(tree) if isinstance(node, ast.arg)]
    return found + [node.name for node in ast.walk(tree) if isinstance(node, (ast.FunctionDef, ast.ClassDef))]


class LanguageTest(unittest.TestCase):

    def each(self):
        return [(path, tree_of(path)) for path in FILES]

    def test_files(self):
        """L1, L10, L14"""
        self.assertTrue(FILES)
        for path in FOLDER.iterdir():
            if path.name != "__pycache__":
                self.assertEqual(path.suffix, ".py")
        for path, _ in self.each():
            text = path.read_text(encoding="utf-8")
            self.assertTrue(all(sign == "\n" or " " <= sign <= "~" for sign in text))
            self.assertEqual(path.name, path.name.lower())
            rows = text.split("\n")
            self.assertLessEqual(len(rows), 399)
            self.assertLessEqual(max(len(row) for row in rows), 120)

    def test_functions(self):
        """L4, L10, L5"""
        methods = {id(node) for _, tree in self.each() for owner in ast.walk(tree) if isinstance(owner, ast.ClassDef)
                   for node in owner.body}
        self.assertTrue(methods)
        for _, tree in self.each():
            for node in functions_in(tree):
                self.assertLessEqual(node.end_lineno - node.lineno + 1, 40, node.name)
                self.assertEqual(node.decorator_list, [], node.name)
                self.assertIsNone(node.args.vararg or node.args.kwarg, node.name)
                if node.name.startswith("__"):
                    self.assertIn(node.name, DOUBLE)

    def test_imports(self):
        """L2, L16"""
        needs = {}
        for path, tree in self.each():
            for node in ast.walk(tree):
                if isinstance(node, ast.ImportFrom):
                    self.assertIn(node, tree.body)
                    self.assertEqual(node.level, 0)
                    self.assertTrue(all(alias.asname is None for alias in node.names))
            needs[f"everrow.{path.stem}"] = set(imports_of(tree).values())
            for name, module in imports_of(tree).items():
                if module in LIBRARY:
                    self.assertIn(name, LIBRARY[module])
                    continue
                self.assertTrue(module.startswith("everrow."))
                source = tree_of(FOLDER / (module.split(".")[1] + ".py"))
                self.assertIn(name, bound_names(ast.Module(
                    [node for node in source.body if not isinstance(node, ast.ImportFrom)], [])))
        while needs:
            ready = [name for name in needs if not any(other in needs for other in needs[name])]
            self.assertTrue(ready, "imports go in a ring")
            needs = {name: others for name, others in needs.items() if name not in ready}

    def test_every_import_is_used(self):
        for path, tree in self.each():
            used = {node.id for node in ast.walk(tree) if isinstance(node, ast.Name)}
            self.assertEqual(set(imports_of(tree)) - used, set(), path.name)

    def test_module_level(self):
        """L3, L15"""
        for path, tree in self.each():
            self.assertTrue(ast.get_docstring(tree))
            names = []
            for node in tree.body:
                self.assertIsInstance(node, (ast.Expr, ast.ImportFrom, ast.FunctionDef, ast.ClassDef, ast.Assign))
                if isinstance(node, ast.Assign):
                    parts = [type(part) for part in ast.walk(node.value)]
                    self.assertFalse(set(parts) & {ast.Call, ast.ListComp, ast.DictComp})
                    names += [target.id for target in node.targets]
                elif isinstance(node, (ast.FunctionDef, ast.ClassDef)):
                    names.append(node.name)
                    self.assertTrue(ast.get_docstring(node) or node.name.startswith("__"), node.name)
            names += list(imports_of(tree))
            self.assertEqual(len(names), len(set(names)))

    def test_nodes(self):
        """L6, L7, L20, L22 to L24, L27"""
        for path, tree in self.each():
            for node in ast.walk(tree):
                self.assertNotIsInstance(node, REFUSED, ast.dump(node))
                if isinstance(node, ast.Compare):
                    for sign, other in zip(node.ops, node.comparators):
                        if isinstance(sign, (ast.Is, ast.IsNot)):
                            self.assertIsInstance(other, ast.Constant)
                if isinstance(node, ast.BinOp) and isinstance(node.op, ast.Pow):
                    self.assertIsInstance(node.right, ast.Constant)
                    self.assertLessEqual(node.right.value, 64)
                if isinstance(node, ast.Constant):
                    self.assertNotIsInstance(node.value, (float, complex))
                    if isinstance(node.value, str):
                        self.assertNotIn("%", node.value)

    def test_names(self):
        """L8, L12, L15, L17"""
        own = set(dir(builtins))
        for path, tree in self.each():
            bound = bound_names(tree)
            classes = {node.name for node in tree.body if isinstance(node, ast.ClassDef)}
            methods = {node.name for owner in ast.walk(tree) if isinstance(owner, ast.ClassDef) for node in owner.body
                       if isinstance(node, ast.FunctionDef)}
            self.assertFalse((set(bound) - methods) & (own | BARRED))
            self.assertFalse(set(bound) & set(imports_of(tree)))
            self.assertTrue(all(bound.count(name) == 1 for name in classes))
            for node in ast.walk(tree):
                if isinstance(node, ast.Name) and node.id in own:
                    self.assertIn(node.id, BUILTINS)
                if isinstance(node, ast.Name):
                    self.assertFalse(node.id.startswith("__"))

    def test_attributes(self):
        """L18, L25, L26"""
        trees = [tree for _, tree in self.each()]
        attributes, methods = set(), set()
        for tree in trees:
            for owner in ast.walk(tree):
                if isinstance(owner, ast.ClassDef):
                    methods |= {node.name for node in owner.body if isinstance(node, ast.FunctionDef)}
                if isinstance(owner, ast.Attribute) and isinstance(owner.ctx, ast.Store):
                    attributes.add(owner.attr)
        taken = {name for kind in (str, int, list, dict, set, bytes, tuple) for name in dir(kind)}
        self.assertFalse(attributes & taken)
        self.assertFalse(attributes & methods)
        # A method may have the name of one that lists have, if it does not say that it modifies something.
        self.assertFalse((methods - DOUBLE - {"copy"}) & taken)
        for tree in trees:
            called = {id(node.func) for node in ast.walk(tree) if isinstance(node, ast.Call)}
            for node in ast.walk(tree):
                if isinstance(node, ast.Attribute) and id(node) in called:
                    self.assertIn(node.attr, METHODS | methods)
                elif isinstance(node, ast.Attribute):
                    self.assertIn(node.attr, attributes)

    def test_ranges_and_their_kin_are_gone_over_at_once(self):
        """L23"""
        takers = {"list", "tuple", "dict", "sorted", "sum", "any", "all", "enumerate", "zip", "min", "max"}
        for path, tree in self.each():
            fine = set()
            for node in ast.walk(tree):
                if isinstance(node, (ast.For, ast.comprehension)):
                    fine.add(id(node.iter))
                if isinstance(node, ast.Call) and isinstance(node.func, ast.Name) and node.func.id in takers:
                    fine |= {id(one) for one in node.args}
            for node in ast.walk(tree):
                if isinstance(node, ast.Call):
                    word = node.func.id if isinstance(node.func, ast.Name) else node.func.attr
                    if word == "reversed" and ast.unparse(node.args[0]).startswith("range("):
                        fine.add(id(node.args[0]))
                    if word in ("zip", "enumerate", "reversed", "range", "items", "keys", "values"):
                        self.assertIn(id(node), fine, ast.unparse(node))


if __name__ == "__main__":
    unittest.main()

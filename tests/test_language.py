"""The rules of the language that can be checked simply: files, imports, builtins, sizes and characters."""

import ast
import builtins
import re
import unittest
from pathlib import Path

PACKAGE = Path(__file__).resolve().parent.parent / "plumbnet"

LIBRARY = {
    "heapq": {"heappush", "heappop", "heapify", "heapreplace", "heappushpop"},
    "math": {"gcd", "lcm", "isqrt", "comb", "perm", "factorial"},
    "itertools": {
        "product", "combinations", "permutations", "chain", "accumulate", "pairwise", "islice", "zip_longest",
    },
    "collections": {"defaultdict"},
    "__future__": {"annotations"},
}

BUILTINS = set(
    "len range enumerate zip min max sum abs sorted reversed int str bool bytes list tuple dict set frozenset "
    "isinstance ord repr any all divmod pow getattr hasattr setattr map iter next super property staticmethod "
    "classmethod object Exception ValueError TypeError KeyError IndexError LookupError ZeroDivisionError "
    "ArithmeticError OverflowError RuntimeError NotImplementedError AttributeError StopIteration "
    "NotImplemented".split()
)

BARRED = (ast.Global, ast.AsyncFunctionDef, ast.AsyncFor, ast.AsyncWith, ast.Await, ast.Import, ast.Div)


def files():
    return sorted(PACKAGE.rglob("*.py"))


class Language(unittest.TestCase):
    def nodes(self, kinds):
        for path in files():
            for node in ast.walk(ast.parse(path.read_text("utf-8"))):
                if isinstance(node, kinds):
                    yield f"{path.name}:{getattr(node, 'lineno', 0)}", node

    def test_the_folder_holds_plain_files_alone(self):
        self.assertTrue((PACKAGE / "__init__.py").is_file())
        for path in PACKAGE.iterdir():
            if path.name != "__pycache__":
                self.assertRegex(path.name, r"^[a-z0-9_]+\.py$")

    def test_characters_and_sizes(self):
        for path in files():
            lines = path.read_text("utf-8").split("\n")
            self.assertLess(len(lines), 400, path.name)
            for number, line in enumerate(lines, 1):
                self.assertRegex(line, re.compile(r"^[ -~]{0,120}$"), f"{path.name}:{number}")

    def test_functions_are_short(self):
        for place, node in self.nodes(ast.FunctionDef):
            self.assertLessEqual(node.end_lineno - node.lineno + 1, 40, place)

    def test_imports(self):
        for place, node in self.nodes(ast.ImportFrom):
            names = {one.name for one in node.names}
            self.assertEqual(node.level, 0, place)
            if node.module.startswith("plumbnet."):
                self.assertNotIn("*", names, place)
            else:
                self.assertLessEqual(names, LIBRARY.get(node.module, set()), place)

    def test_imported_names_are_used_and_keep_their_meaning(self):
        for path in files():
            tree = ast.parse(path.read_text("utf-8"))
            names = {one.name for node in tree.body if isinstance(node, ast.ImportFrom) for one in node.names}
            classes = {node.name for node in tree.body if isinstance(node, ast.ClassDef)}
            nodes = list(ast.walk(tree))
            taken = {node.arg for node in nodes if isinstance(node, ast.arg)}
            taken |= {node.id for node in nodes if isinstance(node, ast.Name) and isinstance(node.ctx, ast.Store)}
            self.assertEqual(taken & (names | classes), set(), path.name)
            self.assertLessEqual(names, {node.id for node in nodes if isinstance(node, ast.Name)}, path.name)

    def test_sorted_compares_strings(self):
        # Ratios have an order, so what is sorted has to be plainly strings.
        for place, node in self.nodes(ast.Call):
            if isinstance(node.func, ast.Name) and node.func.id == "sorted":
                self.assertEqual([(one.arg, ast.unparse(one.value)) for one in node.keywords], [("key", "str")], place)

    def test_builtins(self):
        for place, node in self.nodes(ast.Name):
            if hasattr(builtins, node.id):
                self.assertIn(node.id, BUILTINS, place)

    def test_statements_and_signs(self):
        for place, node in self.nodes(BARRED):
            self.fail(f"{place} {type(node).__name__}")

    def test_literals(self):
        for place, node in self.nodes(ast.Constant):
            self.assertNotIsInstance(node.value, (float, complex), place)
            if isinstance(node.value, str):
                self.assertNotIn("%", node.value, place)


if __name__ == "__main__":
    unittest.main()

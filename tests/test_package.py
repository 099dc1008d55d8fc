"""The files of the package: what they import and use (point 1), and the form of the files."""

import ast
import builtins
import pathlib
import unittest

FOLDER = pathlib.Path(__file__).resolve().parent.parent / "cliplore"
ALLOWED_BUILTINS = set(
    "len range enumerate zip min max sum abs sorted reversed int str bool list tuple dict set isinstance ord repr any "
    "all divmod iter next map super property classmethod staticmethod Exception ValueError TypeError KeyError "
    "NotImplemented".split()
)
ALLOWED_LIBRARY = {"heapq", "math", "itertools"}


def trees():
    for path in sorted(FOLDER.rglob("*.py")):
        yield path, ast.parse(path.read_text("ascii"))


class PackageTest(unittest.TestCase):
    def test_point_1_nothing_from_outside_is_imported(self):
        for path, tree in trees():
            for node in ast.walk(tree):
                self.assertNotIsInstance(node, ast.Import, path)
                if isinstance(node, ast.ImportFrom):
                    first = node.module.split(".")[0]
                    self.assertEqual(node.level, 0, path)
                    self.assertTrue(first == "cliplore" or first in ALLOWED_LIBRARY, f"{path}: {node.module}")

    def test_point_1_no_builtin_that_reads_or_writes(self):
        for path, tree in trees():
            names = {node.id for node in ast.walk(tree) if isinstance(node, ast.Name)}
            used = names & set(dir(builtins))
            self.assertEqual(used - ALLOWED_BUILTINS, set(), path)

    def test_the_folder_contains_only_source_files(self):
        for path in FOLDER.rglob("*"):
            if "__pycache__" not in path.parts:
                self.assertTrue(path.is_dir() or path.suffix == ".py", path)

    def test_sizes(self):
        for path, tree in trees():
            lines = path.read_text("ascii").split("\n")
            self.assertLessEqual(len(lines), 399, path)
            self.assertLessEqual(max(map(len, lines)), 120, path)
            for node in ast.walk(tree):
                if isinstance(node, (ast.FunctionDef, ast.Lambda)):
                    self.assertLessEqual(node.end_lineno - node.lineno + 1, 40, f"{path}:{node.lineno}")

    def test_characters(self):
        for path in FOLDER.rglob("*.py"):
            text = path.read_text("ascii")
            self.assertEqual([c for c in text if not (" " <= c <= "~" or c == "\n")], [], path)


if __name__ == "__main__":
    unittest.main()

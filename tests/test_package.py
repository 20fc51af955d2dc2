"""No clock, chance or file: the package uses nothing but itself."""

import ast
import pathlib
import unittest

PACKAGE = pathlib.Path(__file__).resolve().parent.parent / "queenrows"
BARRED = {"open", "input", "eval", "exec", "compile", "globals", "getattr", "hash", "id"}


def trees():
    for path in sorted(PACKAGE.glob("**/*.py")):
        yield path.name, ast.parse(path.read_text(encoding="utf-8"))


class PackageTest(unittest.TestCase):

    def test_it_is_all_there(self):
        names = [name for name, tree in trees()]
        for name in ("__init__.py", "errors.py", "settings.py", "placing.py", "answers.py", "judging.py", "making.py"):
            self.assertIn(name, names)

    def test_it_imports_only_from_itself(self):
        for name, tree in trees():
            for node in ast.walk(tree):
                with self.subTest(name):
                    self.assertNotIsInstance(node, ast.Import)
                    if isinstance(node, ast.ImportFrom):
                        self.assertEqual(node.level, 0)
                        self.assertEqual(node.module.partition(".")[0], "queenrows")

    def test_it_asks_nothing_of_the_world_around_it(self):
        for name, tree in trees():
            for node in ast.walk(tree):
                if isinstance(node, ast.Name):
                    with self.subTest(name):
                        self.assertNotIn(node.id, BARRED)
                        self.assertFalse(node.id.startswith("__"))


if __name__ == "__main__":
    unittest.main()

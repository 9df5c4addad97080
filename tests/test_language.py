"""The rules of LANGUAGE.md that a test can see in the files of the package."""

import ast
import pathlib
import unittest

PACKAGE = pathlib.Path(__file__).parent.parent / "manydoors"
LIBRARY = {"heapq", "math", "itertools", "collections"}


class LanguageTest(unittest.TestCase):
    def texts(self):
        files = sorted(PACKAGE.glob("*.py"))
        self.assertTrue(files)
        return [path.read_bytes().decode("ascii") for path in files]

    def test_the_package_holds_nothing_but_its_files(self):
        names = [path.name for path in PACKAGE.iterdir() if path.name != "__pycache__"]
        self.assertIn("__init__.py", names)
        self.assertEqual([name for name in names if not name.endswith(".py")], [])

    def test_sizes_and_characters(self):
        for text in self.texts():
            lines = text.split("\n")
            self.assertLessEqual(len(lines), 400)
            self.assertLessEqual(max(len(line) for line in lines), 120)
            self.assertTrue(all(sign == "\n" or " " <= sign <= "~" for sign in text))

    def test_functions_are_small(self):
        for text in self.texts():
            for node in ast.walk(ast.parse(text)):
                if isinstance(node, ast.FunctionDef):
                    self.assertLessEqual(node.end_lineno - node.lineno + 1, 40, node.name)

    def test_imports_are_of_the_package_or_of_what_the_rules_name(self):
        for text in self.texts():
            for node in ast.walk(ast.parse(text)):
                self.assertNotIsInstance(node, ast.Import)
                if isinstance(node, ast.ImportFrom):
                    self.assertEqual(node.level, 0)
                    self.assertIn(node.module.split(".")[0], LIBRARY | {"manydoors"})

    def test_each_name_is_bound_once_at_module_level(self):
        for text in self.texts():
            names = []
            for node in ast.parse(text).body:
                if isinstance(node, (ast.FunctionDef, ast.ClassDef)):
                    names.append(node.name)
                elif isinstance(node, ast.Assign):
                    names.extend(target.id for target in node.targets)
                elif isinstance(node, ast.ImportFrom):
                    names.extend(alias.name for alias in node.names)
            self.assertEqual(len(names), len(set(names)))


if __name__ == "__main__":
    unittest.main()

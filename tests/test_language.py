"""The package keeps to the rules of files, sizes and signs that can be counted."""

import ast
import pathlib
import unittest

PACKAGE = pathlib.Path(__file__).parent.parent / "layeredwords"
FILES = sorted(PACKAGE.rglob("*.py"))


class Rules(unittest.TestCase):
    def test_only_python_files(self):
        others = [path for path in PACKAGE.rglob("*") if path.suffix != ".py" and "__pycache__" not in path.parts]
        self.assertEqual(others, [])
        self.assertIn(PACKAGE / "__init__.py", FILES)

    def test_files_and_lines(self):
        for path in FILES:
            text = path.read_bytes().decode("ascii")
            lines = text.split("\n")
            self.assertLessEqual(len(lines) - 1, 399, path)
            self.assertLessEqual(max(len(line) for line in lines), 120, path)
            self.assertTrue(all(sign == "\n" or " " <= sign <= "~" for sign in text), path)

    def test_functions(self):
        for path in FILES:
            for node in ast.walk(ast.parse(path.read_text())):
                if isinstance(node, ast.FunctionDef):
                    self.assertLessEqual(node.end_lineno - node.lineno + 1, 40, (path, node.name))

    def test_imports(self):
        for path in FILES:
            for node in ast.walk(ast.parse(path.read_text())):
                self.assertNotIsInstance(node, ast.Import, path)
                if isinstance(node, ast.ImportFrom):
                    self.assertEqual((node.level, node.module.split(".")[0]), (0, "layeredwords"), path)

    def test_interface_is_defined_where_it_is_listed(self):
        listed = {
            "errors": ("LayerError", "BadValue", "BadLine", "TooMany", "BadSyntax"),
            "texts": ("is_item", "is_name", "is_reader", "is_text", "lines_of", "joined", "statements"),
            "meanings": ("is_meaning", "nothing", "meaning_of", "then", "act"),
            "seeing": ("see", "why"),
            "readers": ("facts_of", "readers", "names_of"),
            "comparing": ("meaning", "alike", "apart"),
            "normal": ("normal", "normal_text"),
        }
        for name, wanted in listed.items():
            tree = ast.parse((PACKAGE / f"{name}.py").read_text())
            found = [node.name for node in tree.body if isinstance(node, (ast.FunctionDef, ast.ClassDef))]
            for each in wanted:
                self.assertEqual(found.count(each), 1, (name, each))


if __name__ == "__main__":
    unittest.main()

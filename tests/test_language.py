"""The package keeps to the rules of files, sizes and signs that can be counted."""

import ast
import pathlib
import unittest

PACKAGE = pathlib.Path(__file__).parent.parent / "layeredwords"
FILES = sorted(PACKAGE.rglob("*.py"))


class Rules(unittest.TestCase):
    def test_only_python_files(self):
        others = [path for path in PACKAGE.rglob("*") if path.suffix != ".py" and "__pycache__" not in path.parts]
        self.assertEqual(others, [])
        self.assertIn(PACKAGE / "__init__.py", FILES)

    def test_files_and_lines(self):
        for path in FILES:
            text = path.read_bytes().decode("ascii")
            lines = text.split("\n")
            self.assertLessEqual(len(lines) - 1, 399, path)
            self.assertLessEqual(max(len(line) for line in lines), 120, path)
            self.assertTrue(all(sign == "\n" or " " <= sign <= "~" for sign in text), path)

    def test_functions(self):
        for path in FILES:
            for node in ast.walk(ast.parse(path.read_text())):
                if isinstance(node, ast.FunctionDef):
                    self.assertLessEqual(node.end_lineno - node.lineno + 1, 40, (path, node.name))

    def test_imports(self):
        for path in FILES:
            for node in ast.walk(ast.parse(path.read_text())):
                self.assertNotIsInstance(node, ast.Import, path)
                if isinstance(node, ast.ImportFrom):
                    self.assertEqual((node.level, node.module.split(".")[0]), (0, "layeredwords"), path)

    def test_interface_is_defined_where_it_is_listed(self):
        listed = {
            "errors": ("LayerError", "BadValue", "BadLine", "TooMany", "BadSyntax"),
            "texts": ("is_item", "is_name", "is_reader", "is_text", "lines_of", "joined", "statements"),
            "meanings": ("is_meaning", "nothing", "meaning_of", "then", "act"),
            "seeing": ("see", "why"),
            "readers": ("facts_of", "readers", "names_of"),
            "comparing": ("meaning", "alike", "apart"),
            "normal": ("normal", "normal_text"),
            "editing": ("put", "without"),
            "wishes": ("wish", "changes"),
            "merging": ("merge",),
            "console": ("Console",),
        }
        for name, wanted in listed.items():
            tree = ast.parse((PACKAGE / f"{name}.py").read_text())
            found = [node.name for node in tree.body if isinstance(node, (ast.FunctionDef, ast.ClassDef))]
            for each in wanted:
                self.assertEqual(found.count(each), 1, (name, each))

    def test_methods_are_defined_in_the_class(self):
        tree = ast.parse((PACKAGE / "console.py").read_text())
        body = next(node.body for node in tree.body if isinstance(node, ast.ClassDef) and node.name == "Console")
        found = [node.name for node in body if isinstance(node, ast.FunctionDef)]
        for each in ("__init__", "run", "log", "replayed"):
            self.assertEqual(found.count(each), 1, each)

    def test_every_import_is_from_the_file_that_defines_the_name(self):
        for path in FILES:
            for node in ast.parse(path.read_text()).body:
                if isinstance(node, ast.ImportFrom):
                    source = ast.parse((PACKAGE / f"{node.module.split('.')[1]}.py").read_text())
                    defined = [each.name for each in source.body if isinstance(each, (ast.FunctionDef, ast.ClassDef))]
                    defined += [each.targets[0].id for each in source.body if isinstance(each, ast.Assign)]
                    for alias in node.names:
                        self.assertIn(alias.name, defined, path)


if __name__ == "__main__":
    unittest.main()

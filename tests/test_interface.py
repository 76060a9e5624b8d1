"""The interface stands where the document lists it, and the code keeps to the plain subset."""

import ast
import pathlib
import unittest

PACKAGE = pathlib.Path(__file__).resolve().parent.parent / "sortforge"

# By file: each function with its arguments, each class with the class above it.
INTERFACE = {
    "errors.py": {"ForgeError": ["ValueError"], "BadProgram": ["ForgeError"],
                  "BadRow": ["ForgeError"], "NoRule": ["ForgeError"], "BadText": ["ForgeError"]},
    "programs.py": {"is_program": ["thing", "places"], "places_of": ["program"],
                    "layers": ["program"]},
    "running.py": {"run": ["program", "row"], "changes": ["program", "row"]},
    "texts.py": {"written": ["program"], "read": ["text"]},
    "rules.py": {"made": ["rule", "places"], "count_of": ["rule", "places"], "keeps_by": ["rule"]},
    "proving.py": {"orders": ["program", "places"], "keeps": ["program", "places"],
                   "witness": ["program", "places"]},
    "shorter.py": {"idle": ["program", "places"], "without_idle": ["program", "places"],
                   "shortened": ["program", "places", "keep"]},
}

# The only modules from outside of which the subset takes names.
LIBRARY = ("heapq", "math", "itertools", "collections", "__future__")

BARRED = ("open", "input", "print", "eval", "exec", "compile", "globals", "locals", "vars", "id",
          "hash", "object", "float", "__import__", "breakpoint", "memoryview", "bytearray")


def files():
    return sorted(PACKAGE.rglob("*.py"))


def tree_of(path):
    return ast.parse(path.read_text("utf-8"))


def defined_in(path):
    """The names that a file defines at its top, each with its arguments or base classes."""
    found = {}
    for node in tree_of(path).body:
        if isinstance(node, ast.FunctionDef):
            found[node.name] = [part.arg for part in node.args.args]
        if isinstance(node, ast.ClassDef):
            found[node.name] = [base.id for base in node.bases]
    return found


class Interface(unittest.TestCase):
    def test_each_name_is_defined_in_its_file(self):
        for name, listed in INTERFACE.items():
            defined = defined_in(PACKAGE / name)
            for word, parts in listed.items():
                with self.subTest(name, word=word):
                    self.assertEqual(defined.get(word), parts)

    def test_all_of_the_interface_is_imported_by_its_names(self):
        for name, listed in INTERFACE.items():
            module = "sortforge." + name.removesuffix(".py")
            held = vars(__import__(module, fromlist=["*"]))
            for word in listed:
                with self.subTest(module, word=word):
                    self.assertEqual(held[word].__module__, module)


class Subset(unittest.TestCase):
    def test_the_folder_holds_plain_files_alone(self):
        self.assertTrue((PACKAGE / "__init__.py").is_file())
        for path in PACKAGE.rglob("*"):
            if "__pycache__" not in path.parts:
                self.assertTrue(path.suffix == ".py" or path.is_dir(), path)

    def test_sizes_and_characters(self):
        for path in files():
            text = path.read_text("ascii")
            lines = text.split("\n")
            self.assertLessEqual(len(lines), 400, path)
            self.assertLessEqual(max(map(len, lines)), 120, path)
            self.assertTrue(all(sign == "\n" or " " <= sign <= "~" for sign in text), path)
            for node in ast.walk(tree_of(path)):
                if isinstance(node, ast.FunctionDef):
                    self.assertLessEqual(node.end_lineno - node.lineno + 1, 40, node.name)

    def test_no_clock_chance_files_or_network(self):
        for path in files():
            for node in ast.walk(tree_of(path)):
                self.assertNotIsInstance(node, ast.Import, path)
                if isinstance(node, ast.ImportFrom):
                    self.assertEqual(node.level, 0, path)
                    self.assertIn(node.module.split(".")[0], ("sortforge", *LIBRARY), path)
                if isinstance(node, ast.Name):
                    self.assertNotIn(node.id, BARRED, path)


if __name__ == "__main__":
    unittest.main()

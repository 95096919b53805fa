"""The interface stands where the document lists it, and the files keep to the rules of size."""

import ast
import unittest
from pathlib import Path

PACKAGE = Path(__file__).resolve().parent.parent / "ditherdepths"
FUNCTIONS = {
    "screens.py": {
        "bayer": ["number"], "mirrored": ["screen"], "flipped": ["screen"], "transposed": ["screen"],
        "first_levels": ["screen", "number"], "stacked": ["screen", "second"],
    },
    "dots.py": {
        "is_dot": ["screen", "shade", "x", "y"], "dot_count": ["screen", "shade", "window"],
        "nth_dot": ["screen", "shade", "window", "number"],
    },
    "ranks.py": {
        "nth_threshold": ["screen", "window", "number"], "threshold_range": ["screen", "window"],
        "times_of": ["screen", "window", "threshold"], "least_shade": ["screen", "window", "number"],
        "shades_with": ["screen", "window", "number"],
    },
    "squares.py": {
        "even_part": ["screen", "shade", "side"], "is_fuller": ["screen", "shade", "side", "x", "y"],
        "fuller_count": ["screen", "shade", "side", "window"], "first_fuller": ["screen", "shade", "side", "window"],
    },
    "runs.py": {
        "longest_in_row": ["screen", "shade", "y", "kind"], "longest_in_column": ["screen", "shade", "x", "kind"],
        "longest_across": ["screen", "shade", "kind"], "longest_down": ["screen", "shade", "kind"],
    },
    "patterns.py": {
        "matches": ["plates", "conditions", "x", "y"], "match_count": ["plates", "conditions", "window"],
        "match_share": ["plates", "conditions"],
    },
    "edges.py": {
        "edges": ["screen", "shade"], "lone_dots": ["screen", "shade"], "islands_less_holes": ["screen", "shade"],
    },
    "inks.py": {"ink_counts": ["plates", "window"], "covered": ["plates", "window"]},
    "alike.py": {
        "same_dots": ["screen", "shade", "second", "second_shade"],
        "unlike_count": ["screen", "shade", "second", "second_shade", "window"],
        "first_unlike": ["screen", "shade", "second", "second_shade", "window"],
        "moved": ["screen", "x", "y"], "shift_between": ["screen", "second"],
    },
    "told.py": {
        "shades_for": ["screen", "seen"], "deciding": ["screen", "seen"], "first_contradiction": ["screen", "seen"],
        "shades_counted": ["screen", "counted"],
    },
    "texts.py": {
        "show_screen": ["screen"], "read_screen": ["text"], "show_dots": ["screen", "shade", "window"],
    },
}
METHODS = {
    "screens.py": {
        "Screen": {
            "__init__": ["self", "levels"], "levels": ["self"], "depth": ["self"], "period": ["self"],
            "shades": ["self"], "threshold": ["self", "x", "y"], "place": ["self", "number"], "__eq__": None,
        },
    },
    "pictures.py": {
        "Picture": {
            "__init__": ["self", "screen", "width"], "screen": ["self"], "width": ["self"], "bands": ["self"],
            "height": ["self"], "__eq__": None, "insert": ["self", "row", "number", "shade"],
            "remove": ["self", "row", "number"], "paint": ["self", "row", "number", "shade"], "undo": ["self"],
            "log": ["self"], "ink": ["self"], "ink_between": ["self", "row", "number"], "preview": ["self"],
        },
        "InkPicture": {"__init__": ["self", "screen", "width", "limit"], "limit": ["self"]},
    },
    "console.py": {"Console": {"__init__": ["self"], "execute": ["self", "command"]}},
}
PROPERTIES = {
    "screens.py": {"Screen": ["levels", "depth", "period", "shades"]},
    "pictures.py": {"Picture": ["screen", "width", "bands", "height"], "InkPicture": ["limit"]},
}


def tree_of(path):
    return ast.parse(path.read_text(encoding="utf-8"))


def functions_in(node):
    """The functions of a file or a class by their names."""
    return {child.name: child for child in node.body if isinstance(child, ast.FunctionDef)}


def classes_in(node):
    return {child.name: child for child in node.body if isinstance(child, ast.ClassDef)}


def parameters_of(function):
    return [argument.arg for argument in function.args.args]


def files():
    return sorted(PACKAGE.rglob("*.py"))


class InterfaceTest(unittest.TestCase):
    def test_functions(self):
        for name, wanted in FUNCTIONS.items():
            found = functions_in(tree_of(PACKAGE / name))
            for function, parameters in wanted.items():
                self.assertEqual(parameters_of(found[function]), parameters, function)

    def test_methods(self):
        for name, wanted in METHODS.items():
            found = classes_in(tree_of(PACKAGE / name))
            for own, methods in wanted.items():
                defined = functions_in(found[own])
                for method, parameters in methods.items():
                    self.assertIn(method, defined)
                    if parameters is not None:
                        self.assertEqual(parameters_of(defined[method]), parameters, method)

    def test_properties(self):
        for name, wanted in PROPERTIES.items():
            found = classes_in(tree_of(PACKAGE / name))
            for own, properties in wanted.items():
                defined = functions_in(found[own])
                for method in properties:
                    decorators = [decorator.id for decorator in defined[method].decorator_list]
                    self.assertEqual(decorators, ["property"], method)


class FilesTest(unittest.TestCase):
    def test_only_plain_files(self):
        for path in PACKAGE.rglob("*"):
            if "__pycache__" not in path.parts:
                self.assertEqual(path.suffix, ".py", path)
        self.assertTrue((PACKAGE / "__init__.py").is_file())

    def test_sizes_and_characters(self):
        for path in files():
            text = path.read_text(encoding="utf-8")
            lines = text.splitlines()
            self.assertLessEqual(len(lines), 399, path)
            for line in lines:
                self.assertLessEqual(len(line), 120, path)
            self.assertTrue(all(letter == "\n" or " " <= letter <= "~" for letter in text), path)

    def test_functions_are_short(self):
        for path in files():
            for node in ast.walk(tree_of(path)):
                if isinstance(node, ast.FunctionDef):
                    self.assertLessEqual(node.end_lineno - node.lineno + 1, 40, (path, node.name))

    def test_imports_are_of_the_package_or_plain_functions(self):
        allowed = [("math", "gcd")]
        for path in files():
            for node in ast.walk(tree_of(path)):
                self.assertNotIsInstance(node, ast.Import, path)
                if isinstance(node, ast.ImportFrom) and not node.module.startswith("ditherdepths."):
                    for name in node.names:
                        self.assertIn((node.module, name.name), allowed, path)


if __name__ == "__main__":
    unittest.main()

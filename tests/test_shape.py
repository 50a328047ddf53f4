"""The form of the package's files, as far as it can be seen at a glance."""
import ast
import pathlib
import unittest

PACKAGE = pathlib.Path(__file__).resolve().parent.parent / "everso"
FILES = sorted(PACKAGE.rglob("*.py"))
LIBRARY = ("heapq", "math", "itertools", "collections")

# What the interface lists of the files that are there, by where it is defined.
LISTED = {
    "errors.py": (
        "SoError", "NoText", "NoProgram", "NoName", "NoWorth", "NoEdit", "NotYet", "Busy", "Said",
        "TooLong", "TooDeep", "NoCell", "NoModule", "NoThing", "NoStep",
    ),
    "bounds.py": ("MOST", "DEEP", "KEEP"),
    "worths.py": ("is_name", "is_worth", "is_plain", "are_alike"),
    "worthtexts.py": ("show_worth", "read_worth"),
    "programs.py": ("is_deed", "is_program"),
    "leading.py": ("led_deed", "led_rows"),
    "programtexts.py": ("show_program", "read_program"),
    "plains.py": ("Plain",),
    "runs.py": ("Run",),
    "recordchecks.py": ("record_holds",),
    "holding.py": ("held_by",),
}

# Of its classes the methods, each of which stands in the class itself, with its arguments.
PLAIN = {
    "__init__": "self, program, wells, *, most=MOST, deep=DEEP", "sayings": "self", "stand": "self",
    "cell": "self, module, name",
    "cells": "self, module", "things": "self", "thing": "self, k", "steps": "self", "asked": "self, well",
    "there": "self, place",
}
METHODS = {
    "Plain": PLAIN,
    "Run": {
        **PLAIN, "__init__": "self, program, *, most=MOST, deep=DEEP, keep=KEEP", "program": "self", "wells": "self",
        "tell": "self, well, worth", "speak": "self, many=1, *, mouth=None", "busy": "self", "spoken": "self",
        "records": "self",
        "change": "self, edits", "gone": "self", "would": "self, edits", "at": "self, step",
    },
}


def defined(body):
    for row in body:
        if isinstance(row, (ast.FunctionDef, ast.ClassDef)):
            yield row.name
        elif isinstance(row, ast.Assign):
            yield row.targets[0].id


class Shape(unittest.TestCase):
    def each(self):
        for path in FILES:
            text = path.read_text(encoding="utf-8")
            yield path.name, text, ast.parse(text)

    def test_the_folder_holds_files_of_the_package_alone(self):
        for path in PACKAGE.rglob("*"):
            if path.is_file() and path.parent.name != "__pycache__":
                self.assertEqual(path.suffix, ".py", path.name)

    def test_what_the_interface_lists_is_defined_where_it_lists_it(self):
        for name, listed in LISTED.items():
            body = ast.parse((PACKAGE / name).read_text(encoding="utf-8")).body
            self.assertEqual(sorted(set(listed) - set(defined(body))), [], name)

    def test_the_methods_that_it_lists_are_defined_in_the_class_itself(self):
        found = {}
        for _, _, tree in self.each():
            for node in ast.walk(tree):
                if isinstance(node, ast.ClassDef) and node.name in METHODS:
                    found[node.name] = {row.name: ast.unparse(row.args) for row in node.body if isinstance(row,
                        ast.FunctionDef)}
        for name, methods in METHODS.items():
            self.assertEqual({method: found[name].get(method) for method in methods}, methods)

    def test_signs_and_lengths(self):
        for name, text, _ in self.each():
            self.assertEqual([sign for sign in text if not " " <= sign <= "~" and sign != "\n"], [], name)
            self.assertLessEqual(len(text.splitlines()), 399, name)
            self.assertLessEqual(max(map(len, text.splitlines())), 120, name)

    def test_functions_are_small(self):
        for name, _, tree in self.each():
            for node in ast.walk(tree):
                if isinstance(node, ast.FunctionDef):
                    self.assertLessEqual(node.end_lineno - node.lineno + 1, 40, f"{name}: {node.name}")

    def test_imports_are_of_the_package_and_the_few_of_the_library(self):
        for name, _, tree in self.each():
            for node in ast.walk(tree):
                self.assertNotIsInstance(node, ast.Import, name)
                if isinstance(node, ast.ImportFrom):
                    self.assertIn(node.module.split(".")[0], ("everso",) + LIBRARY, name)

    def test_no_text_has_a_percent_sign(self):
        for name, _, tree in self.each():
            for node in ast.walk(tree):
                if isinstance(node, ast.Constant) and isinstance(node.value, str):
                    self.assertNotIn(chr(37), node.value, name)


if __name__ == "__main__":
    unittest.main()

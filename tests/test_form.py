"""The form of the package: names that stand for a property in one class and are stored in another one."""

import ast
import pathlib
import unittest

import elseput

FOLDER = pathlib.Path(elseput.__file__).parent


def nodes(kind):
    """The pairs of a file's name and a node of this kind in it."""
    return [(path.name, node) for path in sorted(FOLDER.rglob("*.py")) for node in ast.walk(ast.parse(path.read_text()))
            if isinstance(node, kind)]


def is_property(row):
    return any(isinstance(mark, ast.Name) and mark.id == "property" for mark in row.decorator_list)


def is_setter(row):
    return any(isinstance(mark, ast.Attribute) and mark.attr == "setter" for mark in row.decorator_list)


def unset_properties():
    """The names that are a property without a setter in some class."""
    found = set()
    for _, kind in nodes(ast.ClassDef):
        rows = [row for row in kind.body if isinstance(row, ast.FunctionDef)]
        found |= {row.name for row in rows if is_property(row)} - {row.name for row in rows if is_setter(row)}
    return found


class Form(unittest.TestCase):
    def test_the_properties_without_a_setter_are_found(self):
        names = unset_properties()
        self.assertTrue({"order", "waste", "fields", "restarts"} <= names)
        self.assertNotIn("width", names)

    def test_no_class_stores_what_is_a_property_without_a_setter(self):
        names = unset_properties()
        stored = [(file, node.lineno, node.attr) for file, node in nodes(ast.Attribute)
                  if not isinstance(node.ctx, ast.Load) and node.attr in names]
        self.assertEqual(stored, [])

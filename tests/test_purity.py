"""Operators, properties, texts and lengths change nothing; names of attributes and rows of `__exit__` are plain."""

import ast
import unittest

from tests.test_language import functions, trees

CHANGING = set("append extend insert pop remove clear reverse setdefault update sort add discard".split())
MAKERS = ("list", "dict", "set", "sorted")
IN_PLACE = ("__init__", "__iadd__", "__enter__", "__exit__")
BARRED_ATTRIBUTES = set(
    "items keys values pop update append clear extend insert remove reverse setdefault sort args encode decode hex "
    "fromhex format format_map mro".split())


def classes():
    return [node for tree in trees().values() for node in tree.body if isinstance(node, ast.ClassDef)]


def methods(owner):
    return [node for node in owner.body if isinstance(node, ast.FunctionDef)]


def is_property(node):
    return [mark.id for mark in node.decorator_list] == ["property"]


def stored_attributes(node):
    return [inner.attr for inner in ast.walk(node)
            if isinstance(inner, ast.Attribute) and not isinstance(inner.ctx, ast.Load)]


def is_created(value):
    """Whether a value is a list, a dict or a set that is new."""
    if isinstance(value, (ast.List, ast.Dict, ast.ListComp, ast.DictComp)):
        return True
    return isinstance(value, ast.Call) and isinstance(value.func, ast.Name) and value.func.id in MAKERS


def own_lists(function):
    """The local variables that are only ever assigned new lists, dicts or sets."""
    assigned = {}
    for node in ast.walk(function):
        if isinstance(node, ast.Assign):
            for target in node.targets:
                for name in ast.walk(target):
                    if isinstance(name, ast.Name) and isinstance(name.ctx, ast.Store):
                        assigned.setdefault(name.id, []).append(target is name and is_created(node.value))
    parameters = [node.arg for node in ast.walk(function) if isinstance(node, ast.arg)]
    return {name for name, all_new in assigned.items() if all(all_new) and name not in parameters}


def changes(function):
    """What a function changes that it did not create."""
    own = own_lists(function)
    found = stored_attributes(function)
    for node in ast.walk(function):
        base = None
        if isinstance(node, ast.Call) and isinstance(node.func, ast.Attribute) and node.func.attr in CHANGING:
            base = node.func.value
        elif isinstance(node, ast.Subscript) and not isinstance(node.ctx, ast.Load):
            base = node.value
        elif isinstance(node, ast.AugAssign):
            found.append("augmented")
        if base is not None and not (isinstance(base, ast.Name) and base.id in own):
            found.append(ast.dump(base))
    return found


def called(function):
    """The names of all functions, methods and properties that a function calls or reads."""
    names = [node.func.id for node in ast.walk(function) if isinstance(node, ast.Call) and isinstance(
        node.func, ast.Name)]
    return names + [node.attr for node in ast.walk(function) if isinstance(node, ast.Attribute)]


class Purity(unittest.TestCase):
    def test_what_operators_and_properties_run(self):
        named = {}
        for tree in trees().values():
            for node in functions(tree):
                named.setdefault(node.name, []).append(node)
        starts = [node for owner in classes() for node in methods(owner)
                  if is_property(node) or node.name.startswith("__") and node.name not in IN_PLACE]
        seen, waiting = [], starts
        while waiting:
            node = waiting.pop()
            if node in seen:
                continue
            seen.append(node)
            self.assertEqual(changes(node), [], node.name)
            waiting = waiting + [other for name in called(node) for other in named.get(name, [])]
        self.assertGreater(len(seen), 40)

    def test_attributes(self):
        properties = {node.name for owner in classes() for node in methods(owner) if is_property(node)}
        for owner in classes():
            attributes = set(stored_attributes(owner))
            self.assertFalse(attributes & properties, owner.name)
            self.assertFalse(attributes & BARRED_ATTRIBUTES, owner.name)
            self.assertFalse(attributes & {node.name for node in methods(owner)}, owner.name)

    def test_no_name_is_a_method_and_an_attribute(self):
        attributes = {name for owner in classes() for name in stored_attributes(owner)}
        self.assertEqual(attributes & {node.name for owner in classes() for node in methods(owner)}, set())

    def test_attributes_that_are_read_are_assigned(self):
        assigned, bound = set(), set()
        for tree in trees().values():
            assigned |= set(stored_attributes(tree))
            bound |= {node.name for node in functions(tree)}
            bound |= {row.targets[0].id for owner in tree.body if isinstance(owner, ast.ClassDef)
                      for row in owner.body if isinstance(row, ast.Assign)}
        for tree in trees().values():
            calls = [node.func for node in ast.walk(tree) if isinstance(node, ast.Call)]
            for node in ast.walk(tree):
                if isinstance(node, ast.Attribute) and isinstance(node.ctx, ast.Load) and node not in calls:
                    self.assertIn(node.attr, assigned | bound)

    def test_rows_of_exit(self):
        for node in [node for owner in classes() for node in methods(owner) if node.name == "__exit__"]:
            self.assertEqual([arg.arg for arg in node.args.args], ["self", "kind", "value", "trace"])
            for row in node.body:
                self.assertIsInstance(row, ast.Assign)
                self.assertIsInstance(row.value, (ast.Attribute, ast.Name))
                self.assertEqual(len(row.targets), 1)
                self.assertIsInstance(row.targets[0], (ast.Attribute, ast.Name))

    def test_generators(self):
        yielding = [node for tree in trees().values() for node in functions(tree)
                    if any(isinstance(inner, ast.Yield) for inner in ast.walk(node))]
        names = [node.name for tree in trees().values() for node in functions(tree)]
        for node in yielding:
            self.assertEqual(names.count(node.name), 1)
            self.assertEqual(node.decorator_list, [])


if __name__ == "__main__":
    unittest.main()

"""Iterated at once: what a loop or a comprehension walks is not changed in it, under whichever of its names."""

import ast
import unittest

from tests.test_language import functions, trees

CHANGING = set("append extend insert pop remove clear reverse setdefault update add discard sort".split())
WALKING = ("enumerate", "zip", "reversed", "map", "iter")
VIEWS = ("items", "keys", "values")
# Steps of breadth-first searches in which the list that is walked is changed under another name, and in which not.
SHARED = """
def steps(start):
    layer = [start]
    while layer:
        found = []
        for at in layer:
            found.append(at + 1)
        layer = found
"""
APART = SHARED.replace("in layer:", "in list(layer):")


def bases(node):
    """What a value is under its names: variables, and attributes of whatever object."""
    if isinstance(node, ast.Name):
        return [node.id]
    if isinstance(node, ast.Attribute):
        return ["." + node.attr]
    if isinstance(node, ast.IfExp):
        return bases(node.body) + bases(node.orelse)
    if isinstance(node, ast.BoolOp):
        return [base for value in node.values for base in bases(value)]
    return []


def walked(node):
    """What a loop over this value walks; a copy is nothing that it could change."""
    if isinstance(node, ast.Call):
        if isinstance(node.func, ast.Name) and node.func.id in WALKING:
            return [base for value in node.args for base in walked(value)]
        if isinstance(node.func, ast.Attribute) and node.func.attr in VIEWS:
            return bases(node.func.value)
        return []
    return bases(node)


def changed(rows):
    """What some statements or expressions change."""
    found = []
    for node in [inner for row in rows for inner in ast.walk(row)]:
        if isinstance(node, ast.Call) and isinstance(node.func, ast.Attribute) and node.func.attr in CHANGING:
            found.extend(bases(node.func.value))
        elif isinstance(node, ast.Subscript) and not isinstance(node.ctx, ast.Load):
            found.extend(bases(node.value))
        elif isinstance(node, ast.AugAssign):
            found.extend(bases(node.target))
    return found


def names_of_one(function):
    """A function that gives for each base all bases that can be the same value, by plain assignments."""
    groups = []
    for node in ast.walk(function):
        if isinstance(node, ast.Assign):
            pairs = [(target, node.value) for target in node.targets]
            for target, value in list(pairs):
                if isinstance(target, ast.Tuple) and isinstance(value, ast.Tuple):
                    pairs.extend(zip(target.elts, value.elts))
            for target, value in pairs:
                group = set(bases(target) + bases(value))
                touching = [other for other in groups if other & group]
                groups = [other for other in groups if not other & group] + [group.union(*touching)]
    return lambda base: next((group for group in groups if base in group), {base})


def offences(function):
    """The lines of the loops and comprehensions of a function that change what they walk."""
    same = names_of_one(function)
    found = []
    for node in ast.walk(function):
        if isinstance(node, ast.For):
            iterated, rows = walked(node.iter), node.body
        elif isinstance(node, (ast.ListComp, ast.DictComp)):
            iterated, rows = [base for part in node.generators for base in walked(part.iter)], [node]
        else:
            continue
        touched = set(changed(rows))
        if any(same(base) & touched for base in iterated):
            found.append(node.lineno)
    return found


class Loops(unittest.TestCase):
    def test_the_check_itself(self):
        for text, many in ((SHARED, 1), (APART, 0), (SHARED.replace("layer = found", "layer = list(found)"), 0)):
            self.assertEqual(len(offences(ast.parse(text).body[0])), many, text)
        for row, many in (("for k in d: d[k] = 1", 1), ("for k in list(d): d[k] = 1", 0), ("for k in d: e[k] = 1", 0),
                          ("for k, v in d.items(): d.pop(k)", 1), ("for k in a.d: b.d.append(k)", 1),
                          ("for k in d if k else e: e.append(k)", 1), ("x = [d.append(k) for k in d]", 1),
                          ("for k, v in enumerate(d): del d[k]", 1), ("for k in d: d += [k]", 1)):
            self.assertEqual(len(offences(ast.parse("def f(d, e):\n    " + row).body[0])), many, row)

    def test_all_functions_of_the_package(self):
        for module, tree in trees().items():
            for function in functions(tree):
                self.assertEqual(offences(function), [], (module, function.name))


if __name__ == "__main__":
    unittest.main()

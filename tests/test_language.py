"""The rules of the language that can be read off the files of the package, and the names of the interface."""

import ast
import builtins
import os
import unittest

ROOT = os.path.dirname(os.path.dirname(os.path.abspath(__file__)))
PACKAGE = os.path.join(ROOT, "twoandabell")

ALLOWED_BUILTINS = set(
    "len range enumerate zip min max sum abs sorted reversed int str bool list tuple dict set isinstance ord repr any "
    "all divmod iter next super property classmethod staticmethod Exception ValueError TypeError KeyError IndexError "
    "LookupError ZeroDivisionError OverflowError NotImplemented".split())
BUILTIN_METHODS = set(
    "append clear copy count endswith extend find get index insert isalnum isalpha isdigit islower isspace isupper "
    "items join ljust lower lstrip partition pop remove replace reverse rfind rjust rpartition rsplit rstrip "
    "setdefault split splitlines startswith strip update upper values zfill bit_length".split())
DUNDERS = set(
    "__init__ __eq__ __str__ __len__ __enter__ __exit__ __iter__ __sub__ __iadd__ __bool__ __contains__ "
    "__getitem__".split())
BARRED_NODES = (
    ast.Global, ast.AsyncFunctionDef, ast.Await, ast.GeneratorExp, ast.Div, ast.NamedExpr, ast.Set, ast.SetComp,
    ast.YieldFrom, ast.AnnAssign)
BARRED_NAMES = set(
    "register mro elements open input law version_info with_traceback add_note type typing enum Enum Generic Protocol "
    "ABC namedtuple dataclass overload compile dir eval exec exit gc globals help id locals os quit vars keys "
    "sys".split())
PLAIN_LIBRARY = {"heapq", "math", "itertools", "collections"}
INTERFACE = {
    "errors": ("BellError InvalidLevel InvalidBook InvalidState InvalidQueue InvalidLoad InvalidStand InvalidOperation "
               "ParseError InvalidNumber NothingToUndo Stopped Parted UnknownName TooMany"),
    "base.words": "is_number is_place is_rest is_word is_entry",
    "book.books": "Level Book",
    "text.books": "write_book read_book",
    "book.states": "is_state fresh worked moved moves_alone posture_after postures way_to",
    "run.queues": "Queues",
    "run.loads": "is_load chart pictures first_parted is_parting without_task",
    "run.processors": "Processor",
    "pair.cuts": "two_of cut kept_ticks",
    "pair.stands": "is_stand moves_at worker_at stand_after exchanged stand_of load_of",
    "pair.joints": "Reach alike parting_load paper is_table is_paper",
    "change.entries": "matters idle_keys entry_paper is_entry_paper are_free",
    "change.levels": "reached counts trimmed without joined join_paper",
    "waits.lives": "doors first_stands steps_from most_work life_paper is_life_paper",
    "waits.lengths": "waits_in wait_line longest_wait",
    "waits.waits": "wait_load is_wait_load",
    "waits.ranks": "is_ahead ahead_paper is_ahead_paper lead lead_paper is_lead_paper",
    "change.fewest": "fewest_changes change_paper is_change_paper",
    "waits.compared": "compared_waits bounding_changes",
    "desk.desk": "Desk",
    "text.loads": "write_load write_chart read_load read_chart",
    "text.shell": "Shell",
}
METHODS = {
    ("book.books", "Level"): "ticks used wake way lost takes __getitem__ __contains__ replaced plain __eq__ __str__",
    ("book.books", "Book"): ("of levels ranks is_open __len__ __iter__ __getitem__ __contains__ entries with_entry "
                             "values_for __sub__ __eq__ __str__"),
    ("run.queues", "Queues"): ("enter leave pick __getitem__ tasks __len__ __bool__ __contains__ level_of best "
                               "is_ahead twin __eq__ __str__"),
    ("run.processors", "Processor"): ("come wake_up tick bell do book picture runner next_one chart done __len__ "
                                      "__getitem__ __contains__ queues log undo redo trial during twin __iadd__ "
                                      "__eq__ __str__"),
    ("pair.joints", "Reach"): "joints parted table __len__ __contains__ __getitem__ layer",
    ("desk.desk", "Desk"): ("put start drop do adopt book_of processor_of followed_by books processors kinds log undo "
                            "redo trial during twin __eq__ __len__ __contains__ __iter__ __str__"),
    ("text.shell", "Shell"): "do results desk log",
}


def files():
    """The paths of all files of the package, without the caches that Python itself leaves."""
    found = []
    for folder, _, names in os.walk(PACKAGE):
        if os.path.basename(folder) != "__pycache__":
            found.extend(os.path.join(folder, name) for name in names)
    return sorted(found)


def module_of(path):
    """The name of the module of a file, without that of the package."""
    return os.path.relpath(path, PACKAGE)[:-3].replace(os.sep, ".")


def text_of(path):
    with open(path, encoding="utf-8", newline="") as file:
        return file.read()


def trees():
    return {module_of(path): ast.parse(text_of(path)) for path in files()}


def functions(tree):
    return [node for node in ast.walk(tree) if isinstance(node, ast.FunctionDef)]


def bound_names(tree):
    """All names that a file gives to something."""
    names = []
    for node in ast.walk(tree):
        if isinstance(node, ast.Name) and isinstance(node.ctx, ast.Store):
            names.append(node.id)
        elif isinstance(node, ast.arg):
            names.append(node.arg)
        elif isinstance(node, (ast.FunctionDef, ast.ClassDef)):
            names.append(node.name)
        elif isinstance(node, ast.ImportFrom):
            names.extend(alias.name for alias in node.names)
        elif isinstance(node, ast.ExceptHandler) and node.name:
            names.append(node.name)
    return names


class Files(unittest.TestCase):
    def test_names(self):
        for path in files():
            name = os.path.basename(path)
            self.assertRegex(name, r"^[a-z0-9_]+\.py$")
            self.assertIn("__init__.py", os.listdir(os.path.dirname(path)))
            self.assertFalse(os.path.isdir(path[:-3]), path)
        self.assertLessEqual(len(files()), 100)

    def test_characters_and_sizes(self):
        for path in files():
            text = text_of(path)
            self.assertTrue(all(" " <= letter <= "~" or letter == "\n" for letter in text), path)
            lines = text.split("\n")
            self.assertLessEqual(len(lines), 399, path)
            self.assertLessEqual(max(len(line) for line in lines), 120, path)
            for node in functions(ast.parse(text)):
                self.assertLessEqual(node.end_lineno - node.lineno + 1, 40, (path, node.name))


class Trees(unittest.TestCase):
    def test_imports(self):
        graph = {}
        for module, tree in trees().items():
            imported = set()
            for node in ast.walk(tree):
                self.assertNotIsInstance(node, ast.Import)
                if not isinstance(node, ast.ImportFrom) or node.module in PLAIN_LIBRARY:
                    continue
                self.assertIn(node, tree.body)
                self.assertEqual(node.level, 0)
                self.assertTrue(node.module.startswith("twoandabell."), node.module)
                self.assertTrue(all(alias.asname is None for alias in node.names))
                source = node.module[len("twoandabell."):]
                defined = bound_names(trees()[source])
                self.assertTrue(all(alias.name in defined for alias in node.names))
                imported.add(source)
            graph[module] = imported
        while graph:
            leaves = {module for module in graph if not graph[module] & set(graph)}
            self.assertTrue(leaves, "files import from each other")
            graph = {module: graph[module] for module in graph if module not in leaves}

    def test_statements_and_expressions(self):
        for module, tree in trees().items():
            for node in ast.walk(tree):
                self.assertNotIsInstance(node, BARRED_NODES, (module, getattr(node, "lineno", 0)))
                if isinstance(node, ast.Constant):
                    self.assertIsInstance(node.value, (int, str, type(None)))
                    self.assertNotIn("%", str(node.value))
                if isinstance(node, ast.Compare):
                    for sign, side in zip(node.ops, node.comparators):
                        if isinstance(sign, (ast.Is, ast.IsNot)):
                            self.assertIsInstance(side, ast.Constant)

    def test_module_level(self):
        allowed = (ast.ImportFrom, ast.FunctionDef, ast.ClassDef, ast.Assign)
        for module, tree in trees().items():
            self.assertIsInstance(ast.get_docstring(tree), str, module)
            names = []
            for node in tree.body[1:]:
                self.assertIsInstance(node, allowed, module)
                if isinstance(node, ast.Assign):
                    self.assertTrue(all(isinstance(target, ast.Name) for target in node.targets))
                    names.append(node.targets[0].id)
                elif isinstance(node, ast.ImportFrom):
                    names.extend(alias.name for alias in node.names)
                else:
                    names.append(node.name)
            self.assertEqual(len(names), len(set(names)), module)
            inner = [name for node in functions(tree) for row in node.body for name in bound_names(row)]
            inner += [arg.arg for node in functions(tree) for arg in ast.walk(node) if isinstance(arg, ast.arg)]
            own = [node.name for node in tree.body if isinstance(node, ast.ClassDef)]
            own += [alias.name for node in tree.body if isinstance(node, ast.ImportFrom) for alias in node.names]
            self.assertFalse(set(inner) & set(own), module)

    def test_names(self):
        every = set(dir(builtins))
        for module, tree in trees().items():
            own = set(bound_names(tree))
            for name in own:
                self.assertNotIn(name, every, module)
                # A parameter may be called so, a method or an attribute may not.
                self.assertNotIn(name, BARRED_NAMES - {"keys"}, module)
                self.assertTrue(name in DUNDERS or not name.startswith("__"), module)
            for node in ast.walk(tree):
                if isinstance(node, ast.Name) and node.id in every:
                    self.assertIn(node.id, ALLOWED_BUILTINS, module)
                if isinstance(node, ast.FunctionDef):
                    self.assertNotIn(node.name, BARRED_NAMES, module)
                if isinstance(node, ast.Attribute):
                    self.assertNotIn(node.attr, BARRED_NAMES, module)
                    self.assertTrue(node.attr == "__init__" or not node.attr.startswith("__"), module)

    def test_stars_of_calls(self):
        for module, tree in trees().items():
            for node in [call for call in ast.walk(tree) if isinstance(call, ast.Call)]:
                starred = [value for value in node.args if isinstance(value, ast.Starred)]
                for value in starred:
                    self.assertIsInstance(value.value, (ast.Name, ast.List, ast.Tuple), (module, node.lineno))
                if starred:
                    for value in node.args[node.args.index(starred[0]) + 1:]:
                        self.assertIsInstance(value, (ast.Name, ast.Constant, ast.Starred), (module, node.lineno))

    def test_sets(self):
        for module, tree in trees().items():
            for node in [call for call in ast.walk(tree) if isinstance(call, ast.Call)]:
                if isinstance(node.func, ast.Name) and node.func.id in ("set", "frozenset"):
                    measured = any(node in other.args for other in ast.walk(tree) if isinstance(
                        other, ast.Call) and isinstance(other.func, ast.Name) and other.func.id in ("sorted", "len"))
                    self.assertTrue(measured or self.is_stored(tree, node), (module, node.lineno))

    def is_stored(self, tree, made):
        """Whether a set is assigned once to a local variable, which is only asked what is in it."""
        for function in functions(tree):
            names = [node.targets[0].id for node in ast.walk(function) if isinstance(node, ast.Assign)
                     and node.value is made and isinstance(node.targets[0], ast.Name)]
            if names:
                uses = [node for node in ast.walk(function) if isinstance(node, ast.Name) and node.id == names[0]]
                asked = [node.comparators[0] for node in ast.walk(function) if isinstance(node, ast.Compare)
                         and isinstance(node.ops[0], (ast.In, ast.NotIn))]
                return len(uses) == 1 + len([node for node in uses if node in asked])
        return False

    def test_decorators(self):
        for module, tree in trees().items():
            for node in ast.walk(tree):
                if isinstance(node, ast.ClassDef):
                    self.assertEqual(node.decorator_list, [])
                if isinstance(node, ast.FunctionDef):
                    names = [mark.id for mark in node.decorator_list]
                    self.assertIn(names, ([], ["property"], ["classmethod"], ["staticmethod"]), module)

    def test_called_methods(self):
        own = {node.name for tree in trees().values() for node in functions(tree)}
        for module, tree in trees().items():
            for node in ast.walk(tree):
                if isinstance(node, ast.Call) and isinstance(node.func, ast.Attribute):
                    self.assertIn(node.func.attr, own | BUILTIN_METHODS, module)

    def test_properties_are_no_methods(self):
        properties, methods = set(), set()
        for tree in trees().values():
            for owner in [node for node in ast.walk(tree) if isinstance(node, ast.ClassDef)]:
                for node in [row for row in owner.body if isinstance(row, ast.FunctionDef)]:
                    marks = [mark.id for mark in node.decorator_list]
                    (properties if marks == ["property"] else methods).add(node.name)
                    self.assertTrue(node.name in DUNDERS or not node.name.startswith("__"))
                names = [row.name for row in owner.body if isinstance(row, ast.FunctionDef)]
                self.assertEqual(len(names), len(set(names)))
                self.assertTrue("__getitem__" not in names or "__iter__" in names)
        self.assertFalse(properties & (methods | BUILTIN_METHODS))


class Interface(unittest.TestCase):
    def test_names_are_defined_where_they_are_listed(self):
        for module, names in INTERFACE.items():
            body = trees()[module].body
            defined = [node.name for node in body if isinstance(node, (ast.FunctionDef, ast.ClassDef))]
            for name in names.split():
                self.assertIn(name, defined)

    def test_methods_are_defined_in_the_class_itself(self):
        for (module, owner), names in METHODS.items():
            found = [node for node in trees()[module].body if isinstance(node, ast.ClassDef) and node.name == owner]
            defined = [node.name for node in found[0].body if isinstance(node, ast.FunctionDef)]
            for name in names.split():
                self.assertIn(name, defined, owner)


if __name__ == "__main__":
    unittest.main()

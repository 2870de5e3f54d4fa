"""The interface and the form of the code of the package."""

import ast
import builtins
import inspect
import os
import unittest
from importlib import import_module

PACKAGE = os.path.join(os.path.dirname(os.path.dirname(os.path.abspath(__file__))), "swappedhot")

# The parameters of what the interface lists, file by file; None stands for a class without methods of its own.
INTERFACE = {
    "graphs": {
        "Graph": {
            "__init__": "(self, words, events, modules, top, *, most=5)",
            "editions": "(self, name)",
            "all_sources": "(self)",
            "__eq__": None, "__len__": None, "__contains__": None,
        },
    },
    "states": {"is_state": "(graph, value)"},
    "running": {"start": "(graph, sources)"},
    "rules": {"all_rules": "()", "check_rule": "(value)"},
    "climbing": {"importers": "(graph, state, module)", "climb": "(graph, state, module)"},
    "swapping": {
        "is_deed": "(graph, value)",
        "calls_of": "(graph, state, event)",
        "Step": None,
        "step": "(graph, rule, state, deed)",
    },
    "judging": {"state_faults": "(graph, state)", "judge": "(graph, rule, state, deed)"},
    "live": {
        "Live": {
            "__init__": "(self, graph, rule, *, state=None)",
            "do": "(self, deed)",
            "use": "(self, rule)",
            "edit": "(self, module, edition)",
            "fire": "(self, event)",
            "reload": "(self)",
            "preview": "(self, deeds)",
            "undo": "(self)",
            "fork": "(self)",
            "faults": "(self)",
            "__getitem__": None, "__setitem__": None, "__iadd__": None, "__len__": None, "__contains__": None,
        },
    },
    "books": {
        "Book": {
            "__init__": "(self, graph, rule, *, sets=True, limit=2000)",
            "states": "(self)",
            "number": "(self, state)",
            "deeds": "(self)",
            "target": "(self, k, d)",
            "faults": "(self, k, d)",
            "edges": "(self)",
            "route": "(self, k)",
            "found": "(self)",
            "least_run": "(self, fault)",
            "__len__": None, "__contains__": None,
        },
    },
    "counting": {"count_runs": "(book, kinds, length)", "distances": "(book)"},
    "verdicts": {
        "verdict": "(graph, rule, fault, *, sets=True, limit=2000)",
        "check_run": "(graph, rule, fault, deeds)",
        "check_closed": "(graph, rule, fault, states, *, sets=True)",
    },
    "alike": {
        "rules_alike": "(graph, first, second, *, sets=True, limit=2000)",
        "check_alike": "(graph, first, second, pairs, *, sets=True)",
        "check_unlike": "(graph, first, second, deeds)",
    },
    "healing": {
        "choices": "(graph)",
        "with_accepts": "(graph, added)",
        "least_accepts": "(graph, rule, kinds, chosen, *, sets=True, limit=500)",
        "places": "(graph)",
        "without_cleanup": "(graph, place)",
        "needless": "(graph, rule, kinds, *, sets=True, limit=500)",
    },
    "texts": {
        "write_graph": "(graph)",
        "read_graph": "(text)",
        "write_deeds": "(deeds)",
        "read_deeds": "(text)",
    },
    "desk": {"Desk": {"__init__": "(self, graph, rule)", "__call__": "(self, line)", "__ior__": None}},
}

ALLOWED_BUILTINS = """
    len range enumerate zip min max sum abs sorted reversed int str bool bytes list tuple dict set frozenset isinstance
    ord repr any all divmod iter next Exception ValueError TypeError KeyError IndexError LookupError ZeroDivisionError
    ArithmeticError OverflowError RuntimeError NotImplementedError AttributeError StopIteration NotImplemented
""".split()

ALLOWED_DOUBLE = """
    __init__ __eq__ __repr__ __str__ __len__ __enter__ __exit__ __call__ __iter__ __lt__ __le__ __gt__ __ge__ __ne__
    __contains__ __getitem__ __setitem__ __iadd__ __ior__
""".split()

BARRED = """
    register mro elements open input law version_info with_traceback add_note typing typing_extensions enum Enum IntEnum
    StrEnum Flag IntFlag Generic Protocol ABC ABCMeta namedtuple NamedTuple TypedDict TYPE_CHECKING abstractmethod
    _wall _WallAttr
""".split()


def files():
    return {name[:-3]: read(name) for name in sorted(os.listdir(PACKAGE)) if name != "__pycache__"}


def read(name):
    with open(os.path.join(PACKAGE, name), encoding="utf-8") as file:
        return file.read()


class Interface(unittest.TestCase):
    def test_functions_are_defined_in_their_files(self):
        for file, names in INTERFACE.items():
            module = import_module("swappedhot." + file)
            for name, told in names.items():
                with self.subTest(file, name=name):
                    thing = vars(module)[name]
                    self.assertEqual(thing.__module__, "swappedhot." + file)
                    if isinstance(told, str):
                        self.assertEqual(str(inspect.signature(thing)), told)

    def test_methods_are_defined_in_their_classes(self):
        for file, names in INTERFACE.items():
            for name, told in names.items():
                for method, parameters in told.items() if isinstance(told, dict) else ():
                    with self.subTest(name, method=method):
                        thing = vars(getattr(import_module("swappedhot." + file), name))[method]
                        if parameters is not None:
                            self.assertEqual(str(inspect.signature(thing)), parameters)


class Form(unittest.TestCase):
    def setUp(self):
        self.trees = {name: ast.parse(text) for name, text in files().items()}

    def nodes(self, *kinds):
        for name, tree in self.trees.items():
            for node in ast.walk(tree):
                if isinstance(node, kinds):
                    yield name, node

    def test_the_folder_holds_nothing_but_files_of_the_language(self):
        for name in os.listdir(PACKAGE):
            self.assertTrue(name == "__pycache__" or name.endswith(".py"), name)
            self.assertEqual(name, name.lower())

    def test_sizes_and_characters(self):
        for name, text in files().items():
            lines = text.split("\n")
            self.assertLessEqual(len(lines), 400, name)
            for line in lines:
                self.assertLessEqual(len(line), 120, name)
                self.assertTrue(all([" " <= letter <= "~" for letter in line]), line)
        for name, node in self.nodes(ast.FunctionDef):
            self.assertLessEqual(node.end_lineno - node.lineno + 1, 40, (name, node.name))

    def test_no_two_files_import_from_each_other(self):
        imports = {name: [] for name in self.trees}
        for name, node in self.nodes(ast.Import, ast.ImportFrom):
            self.assertIsInstance(node, ast.ImportFrom)
            if node.module not in ("heapq", "math", "itertools"):
                package, file = node.module.split(".")
                self.assertEqual(package, "swappedhot")
                imports[name].append(file)
                for alias in node.names:
                    self.assertIn(alias.name, self.bound(file), (name, alias.name))
        ready = []
        while len(ready) < len(imports):
            more = [name for name in imports if name not in ready and all([each in ready for each in imports[name]])]
            self.assertTrue(more, "a ring of imports")
            ready += more

    def bound(self, file):
        names = []
        for node in self.trees[file].body:
            if isinstance(node, (ast.FunctionDef, ast.ClassDef)):
                names.append(node.name)
            if isinstance(node, ast.Assign):
                names += [target.id for target in node.targets]
        return names

    def test_only_the_allowed_expressions_and_statements(self):
        kinds = (ast.GeneratorExp, ast.AnnAssign, ast.Global, ast.AsyncFunctionDef, ast.Await, ast.Div, ast.Lambda)
        for name, node in self.nodes(*kinds):
            self.fail((name, node.lineno))
        for name, node in self.nodes(ast.Constant):
            self.assertNotIsInstance(node.value, (float, complex))
            if isinstance(node.value, str):
                self.assertNotIn("%", node.value, name)
        for name, node in self.nodes(ast.Compare):
            for sign, value in zip(node.ops, node.comparators):
                if isinstance(sign, (ast.Is, ast.IsNot)):
                    self.assertIsInstance(value, ast.Constant, (name, node.lineno))

    def test_only_the_allowed_builtins(self):
        for name, node in self.nodes(ast.Name):
            if hasattr(builtins, node.id):
                self.assertIn(node.id, ALLOWED_BUILTINS, (name, node.lineno))
                self.assertIsInstance(node.ctx, ast.Load, (name, node.lineno))

    def test_names(self):
        for name, node in self.nodes(ast.FunctionDef, ast.ClassDef, ast.arg, ast.Name, ast.Attribute):
            word = [getattr(node, each) for each in ("name", "arg", "id", "attr") if hasattr(node, each)][0]
            self.assertNotIn(word, BARRED, name)
            if word.startswith("__"):
                self.assertIn(word, ALLOWED_DOUBLE, (name, node.lineno))

    def test_no_local_name_hides_another(self):
        for name, tree in self.trees.items():
            taken = [node.name for node in tree.body if isinstance(node, (ast.ClassDef, ast.FunctionDef))]
            for node in tree.body:
                if isinstance(node, ast.ImportFrom):
                    taken += [alias.name for alias in node.names]
            for node in ast.walk(tree):
                if isinstance(node, ast.arg):
                    self.assertFalse(node.arg in taken or hasattr(builtins, node.arg), (name, node.arg))
                if isinstance(node, ast.Name) and isinstance(node.ctx, ast.Store):
                    self.assertFalse(node.id in taken or hasattr(builtins, node.id), (name, node.id))

    def test_generators_have_names_of_their_own(self):
        generators = [node.name for _, node in self.nodes(ast.FunctionDef)
                      if any([isinstance(each, (ast.Yield, ast.YieldFrom)) for each in ast.walk(node)])]
        self.assertEqual(generators, ["edges"])
        self.assertEqual([node.name for _, node in self.nodes(ast.FunctionDef)].count("edges"), 1)
        for name, node in self.nodes(ast.Name):
            self.assertNotEqual(node.id, "edges", name)

    def test_no_class_has_a_method_and_an_attribute_of_one_name(self):
        methods, attributes = {}, {}
        for name, tree in self.trees.items():
            for kind in [node for node in tree.body if isinstance(node, ast.ClassDef)]:
                methods[kind.name] = [node.name for node in kind.body if isinstance(node, ast.FunctionDef)]
                self.assertEqual(len(methods[kind.name]), len(set(methods[kind.name])), kind.name)
                attributes[kind.name] = [node.attr for node in ast.walk(kind)
                                         if isinstance(node, ast.Attribute) and isinstance(node.ctx, ast.Store)]
        for kind, names in methods.items():
            for other, taken in attributes.items():
                self.assertFalse(set(names) & set(taken), (kind, other))

    def test_functions_have_no_decorators_and_annotations(self):
        for name, node in self.nodes(ast.FunctionDef):
            self.assertEqual((node.decorator_list, node.returns), ([], None), name)
            for each in node.args.args + node.args.kwonlyargs:
                self.assertIsNone(each.annotation, (name, each.arg))


if __name__ == "__main__":
    unittest.main()

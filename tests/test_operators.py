"""What the operators of the package lead to, read off its code: they change nothing and call nothing that is held."""

import ast
import unittest

from tests.test_form import ALLOWED_BUILTINS, files

# What may change the object before it, or is called as a function is.
CHANGING = ("__setitem__", "__iadd__", "__ior__", "__call__")


def parsed(texts):
    return [ast.parse(text) for text in texts]


class Code:
    """The functions, methods and attributes of some files by name, and who leads to whom."""

    def __init__(self, trees):
        self.functions, self.classes, self.methods, self.operators = {}, {}, {}, {}
        for node in [node for tree in trees for node in tree.body]:
            if isinstance(node, ast.FunctionDef):
                self.functions.setdefault(node.name, []).append(node)
            if isinstance(node, ast.ClassDef):
                self.take_class(node)
        self.attributes = {node.attr for tree in trees for node in ast.walk(tree)
                           if isinstance(node, ast.Attribute) and not isinstance(node.ctx, ast.Load)}

    def take_class(self, kind):
        self.classes[kind.name] = []
        for node in [node for node in kind.body if isinstance(node, ast.FunctionDef)]:
            if node.name == "__init__":
                self.classes[kind.name].append(node)
            elif node.name.startswith("__"):
                self.operators[kind.name + "." + node.name] = node
            else:
                self.methods.setdefault(node.name, []).append(node)

    def led_to(self, operator):
        """All functions and methods that an operator leads to, with itself.

        The name of a function counts where it is passed on, too, and a method of every class that has one of
        this name; a class where an object is made. The signs are not followed: their operators begin on their own.
        """
        found, waiting = [], [self.operators[operator]]
        while waiting:
            function = waiting.pop()
            if function in found:
                continue
            found.append(function)
            for node in ast.walk(function):
                if isinstance(node, ast.Name):
                    waiting += self.functions.get(node.id, [])
                if isinstance(node, ast.Call) and isinstance(node.func, ast.Name):
                    waiting += self.classes.get(node.func.id, [])
                if isinstance(node, ast.Attribute):
                    waiting += self.methods.get(node.attr, [])
        return found

    def calls_of_held(self):
        """The calls of methods of which an object has an attribute of the same name: operator, function, method."""
        return [(operator, function.name, node.func.attr)
                for operator in self.operators for function in self.led_to(operator) for node in ast.walk(function)
                if isinstance(node, ast.Call) and isinstance(node.func, ast.Attribute)
                and node.func.attr in self.attributes]

    def quiet(self):
        """What the operators that change nothing lead to, by operator; objects that are made may be filled."""
        return [(operator, function) for operator in self.operators if operator.split(".")[1] not in CHANGING
                for function in self.led_to(operator) if function.name != "__init__"]


class Operators(unittest.TestCase):
    def setUp(self):
        self.code = Code(parsed(files().values()))

    def test_all_operators_are_looked_at(self):
        self.assertEqual(sorted(self.code.operators), [
            "Book.__contains__", "Book.__len__", "Desk.__call__", "Desk.__ior__", "Graph.__contains__", "Graph.__eq__",
            "Graph.__len__", "Live.__contains__", "Live.__getitem__", "Live.__iadd__", "Live.__iter__", "Live.__len__",
            "Live.__setitem__",
        ])

    def test_the_ways_are_followed(self):
        for operator, wanted in (
                ("Book.__contains__", """__contains__ number is_state is_sources is_instance fits_cell are_holds
                                         is_current is_listener all_live links_of reached is_index is_integer is_name
                                         is_tuple editions __init__ copied"""),
                ("Live.__getitem__", "__getitem__ check_module current_instances __init__ copied"),
                ("Live.__contains__", "__contains__ current_instances"),
                ("Graph.__contains__", "__contains__")):
            names = {function.name for function in self.code.led_to(operator)}
            self.assertEqual(names, set(wanted.split()), operator)
        for operator in ("Live.__setitem__", "Live.__iadd__", "Desk.__ior__"):
            names = {function.name for function in self.code.led_to(operator)}
            self.assertLessEqual({"step", "edit", "with_word", "climb", "put_away", "run", "editions"}, names, operator)

    def test_the_attributes_are_known(self):
        self.assertLessEqual({"index", "name", "names", "modules", "state", "search", "answers", "word", "outcomes"},
                             self.code.attributes)

    def test_no_operator_leads_to_a_call_of_what_is_held(self):
        self.assertEqual(self.code.calls_of_held(), [])

    def test_operators_call_only_what_has_a_name(self):
        """Neither a parameter nor a local variable nor an item is called, but functions, classes and methods."""
        known = list(self.code.functions) + list(self.code.classes) + ALLOWED_BUILTINS
        for operator, function in self.code.quiet():
            held = [node.arg for node in ast.walk(function) if isinstance(node, ast.arg)]
            held += [node.id for node in ast.walk(function)
                     if isinstance(node, ast.Name) and isinstance(node.ctx, ast.Store)]
            for node in ast.walk(function):
                if isinstance(node, ast.Call):
                    self.assertIsInstance(node.func, (ast.Name, ast.Attribute), (operator, function.name))
                if isinstance(node, ast.Call) and isinstance(node.func, ast.Name):
                    self.assertIn(node.func.id, known, (operator, function.name))
                    self.assertNotIn(node.func.id, held, (operator, function.name))

    def test_operators_change_nothing(self):
        for operator, function in self.code.quiet():
            for node in ast.walk(function):
                self.assertNotIsInstance(node, (ast.AugAssign, ast.Delete), (operator, function.name))
                if isinstance(node, ast.Attribute):
                    self.assertIsInstance(node.ctx, ast.Load, (operator, function.name))


class PlantedCalls(unittest.TestCase):
    """The calls are found wherever an operator leads to them, and only there."""

    wrong = "class Wrong(ValueError):\n    def __init__(self, index):\n        self.index = index\n"
    bag = "class Bag:\n    def {}(self, x):\n        return {}\n    def place(self, x):\n        return {}\n"

    def found(self, *texts):
        return Code(parsed(texts)).calls_of_held()

    def test_in_the_operator_itself(self):
        for operator in ("__contains__", "__eq__", "__getitem__", "__lt__", "__iadd__", "__call__"):
            self.assertEqual(self.found(self.wrong, self.bag.format(operator, "self.rows.index(x)", "0")),
                             [("Bag." + operator, operator, "index")])

    def test_behind_methods_and_functions_of_other_files(self):
        bag = self.bag.format("__len__", "self.place(0)", "place_in(self.rows, x)")
        place = "def place_in(rows, x):\n    return sorted(rows, key=rank)[0]\ndef rank(row):\n    return [{}]\n"
        self.assertEqual(self.found(self.wrong, bag, place.format("row.index(0)")), [("Bag.__len__", "rank", "index")])
        self.assertEqual(self.found(self.wrong, bag, place.format("row.count(0)")), [])

    def test_in_what_a_class_does_with_a_new_object(self):
        bag = self.bag.format("__eq__", "Other(x)", "0")
        other = "class Other:\n    def __init__(self, rows):\n        self.many = rows.index(0)\n"
        self.assertEqual(self.found(self.wrong, bag, other), [("Bag.__eq__", "__init__", "index")])

    def test_attributes_of_every_class_count(self):
        bag = self.bag.format("__eq__", "self.rows.find(x)", "0")
        self.assertEqual(self.found(self.wrong, bag), [])
        self.assertEqual(self.found("class Box:\n    def put(self, x):\n        self.find = x\n", bag),
                         [("Bag.__eq__", "__eq__", "find")])

    def test_what_no_operator_leads_to_is_free(self):
        bag = self.bag.format("__eq__", "self is x", "self.rows.index(x)")
        self.assertEqual(self.found(self.wrong, bag, "def place_in(rows, x):\n    return rows.index(x)\n"), [])
        self.assertEqual(self.found(self.bag.format("__eq__", "self.rows.index(x)", "0")), [])


if __name__ == "__main__":
    unittest.main()

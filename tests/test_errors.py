"""The classes of errors and what every error of the program promises."""

import copy
import inspect
import unittest

from swappedhot import errors
from swappedhot.graphs import Graph
from swappedhot.plain import copied, is_integer, is_name
from swappedhot.running import start
from tests.samples import any_values, example, nested

CLASSES = {
    "InvalidGraph": ["part", "path"],
    "InvalidRule": ["path"],
    "InvalidSources": ["sources"],
    "NoModule": ["name"],
    "BadDeed": ["deed"],
    "TooMany": ["what"],
    "NotAState": [],
    "NothingToUndo": [],
    "BatchRefused": ["index"],
    "BadLimit": ["limit"],
    "TooManyStates": ["limit"],
    "BadFault": ["fault"],
    "BadKinds": ["kinds"],
    "BadLength": ["length"],
    "BadChoice": ["index"],
    "NoPlace": ["place"],
    "InvalidText": ["line"],
    "DeskRefused": ["index"],
}

KEEPERS_OF_ANY_VALUE = [
    "InvalidSources", "NoModule", "BadDeed", "BadLimit", "BadFault", "BadKinds", "BadLength", "NoPlace",
]


class ErrorClasses(unittest.TestCase):
    def test_there_are_eighteen_and_no_more(self):
        found = [name for name, value in vars(errors).items() if inspect.isclass(value)]
        self.assertEqual(len(CLASSES), 18)
        self.assertEqual(sorted(found), sorted(list(CLASSES) + ["SwapError"]))

    def test_swap_error_is_a_value_error(self):
        self.assertEqual(errors.SwapError.__bases__, (ValueError,))

    def test_each_derives_directly_from_swap_error(self):
        for name in CLASSES:
            with self.subTest(name):
                self.assertEqual(getattr(errors, name).__bases__, (errors.SwapError,))

    def test_each_has_its_attributes_in_the_order_of_its_arguments(self):
        for name, attributes in CLASSES.items():
            with self.subTest(name):
                values = list(range(10, 10 + len(attributes)))
                error = getattr(errors, name)(*values)
                self.assertEqual([getattr(error, each) for each in attributes], values)
                self.assertEqual(vars(error), dict(zip(attributes, values)))

    def test_each_takes_no_more_and_no_fewer_arguments(self):
        for name, attributes in CLASSES.items():
            with self.subTest(name):
                with self.assertRaises(TypeError):
                    getattr(errors, name)(*[1] * (len(attributes) + 1))
                if attributes:
                    with self.assertRaises(TypeError):
                        getattr(errors, name)(*[1] * (len(attributes) - 1))

    def test_arguments_may_be_passed_by_the_names_of_the_attributes(self):
        error = errors.InvalidGraph(path=(1,), part="words")
        self.assertEqual((error.part, error.path), ("words", (1,)))

    def test_an_error_may_have_any_value(self):
        for name in KEEPERS_OF_ANY_VALUE:
            for value in any_values():
                error = getattr(errors, name)(value)
                kept = getattr(error, CLASSES[name][0])
                self.assertEqual(kept, value)
                self.assertIs(type(kept), type(value))
                self.assertIsInstance(str(error), str)

    def test_an_error_keeps_no_list_that_it_is_passed(self):
        for name in KEEPERS_OF_ANY_VALUE:
            for value in ([1, [2]], ([1], 2), {"a": [1]}, nested("list", 20)):
                with self.subTest(name, value=value):
                    before = copy.deepcopy(value)
                    error = getattr(errors, name)(value)
                    change(value)
                    self.assertNotEqual(value, before)
                    self.assertEqual(getattr(error, CLASSES[name][0]), before)


def change(value):
    """Change a list that stands as deep as possible in the value."""
    for item in value.values() if isinstance(value, dict) else value:
        if isinstance(item, (list, tuple, dict)):
            change(item)
            return
    value.append("changed")


class GeneralRules(unittest.TestCase):
    def test_an_integer_is_an_int_that_is_not_a_bool(self):
        self.assertTrue(all([is_integer(value) for value in (0, -1, 5, 10 ** 3999)]))
        for value in (True, False, None, "1", "", (1,), [1], {1: 1}):
            self.assertFalse(is_integer(value), value)

    def test_a_name_has_one_to_eight_letters(self):
        for value in ("a", "z", "az", "abcdefgh", "self"):
            self.assertTrue(is_name(value), value)
        for value in ("", "abcdefghi", "A", "aB", "a1", "a b", " a", "a ", "a\n", "a_", "a-b", "`", "{", "\u00e9"):
            self.assertFalse(is_name(value), value)
        for value in (0, True, None, ("a",), ["a"], {"a": "a"}, b"a"):
            self.assertFalse(is_name(value), value)

    def test_a_copy_is_equal_and_shares_no_list(self):
        inner = [1, (2, [3])]
        value = {"a": inner, "b": (inner, True)}
        again = copied(value)
        self.assertEqual(again, value)
        inner[1][1].append(4)
        inner.append(5)
        self.assertEqual(again, {"a": [1, (2, [3])], "b": ([1, (2, [3])], True)})
        self.assertIs(again["b"][1], True)

    def test_no_value_is_too_deep(self):
        graph = example()
        for shape in ("list", "tuple", "dict"):
            for depth in (20, 60):
                value = nested(shape, depth)
                with self.assertRaises(errors.InvalidSources):
                    start(graph, value)
                with self.assertRaises(errors.NoModule):
                    graph.editions(value)
                with self.assertRaises(errors.InvalidGraph):
                    Graph(value, value, value, value, most=value)


if __name__ == "__main__":
    unittest.main()

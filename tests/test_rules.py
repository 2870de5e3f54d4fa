"""The twelve rules, and what is a rule."""

import copy
import unittest

from swappedhot.errors import BadDeed, InvalidRule
from swappedhot.judging import judge
from swappedhot.rules import all_rules, check_rule
from swappedhot.swapping import step
from tests.samples import any_values, example, zeros


class AllRules(unittest.TestCase):
    def test_the_example(self):
        self.assertEqual(all_rules()[:2], [("near", "reload", "kept"), ("near", "reload", "lost")])

    def test_the_twelve_in_order(self):
        self.assertEqual(all_rules(), [
            ("near", "reload", "kept"), ("near", "reload", "lost"),
            ("near", "stay", "kept"), ("near", "stay", "lost"),
            ("near", "again", "kept"), ("near", "again", "lost"),
            ("far", "reload", "kept"), ("far", "reload", "lost"),
            ("far", "stay", "kept"), ("far", "stay", "lost"),
            ("far", "again", "kept"), ("far", "again", "lost"),
        ])

    def test_a_new_list_each_time(self):
        rules = all_rules()
        rules.reverse()
        rules.pop()
        self.assertEqual(len(all_rules()), 12)
        self.assertEqual(all_rules()[0], ("near", "reload", "kept"))
        self.assertIsNot(all_rules(), all_rules())


class CheckRule(unittest.TestCase):
    def wrong(self, value, path):
        before = copy.deepcopy(value)
        graph = example()
        for call in (lambda: check_rule(value),
                     lambda: step(graph, value, zeros(graph), ("reload",)),
                     lambda: judge(graph, value, zeros(graph), ("reload",))):
            with self.assertRaises(InvalidRule) as caught:
                call()
            self.assertEqual(caught.exception.path, path, value)
            self.assertIsInstance(caught.exception.path, tuple)
        self.assertEqual(repr(value), repr(before))

    def test_rules(self):
        for rule in all_rules():
            self.assertIsNone(check_rule(rule))

    def test_values_that_are_no_tuples_of_three(self):
        for value in any_values():
            self.wrong(value, ())
        for value in (("near", "stay"), ("near", "stay", "kept", "kept"), ["near", "stay", "kept"], "near", (),
                      {"near": 0, "stay": 1, "kept": 2}, (("near", "stay", "kept"),), "abc", ("near",)):
            self.wrong(value, ())

    def test_each_item(self):
        for value in any_values() + ["NEAR", "near ", "nea", ("near",), ["near"], "stay", "kept"]:
            self.wrong((value, "stay", "kept"), (0,))
        for value in any_values() + ["Stay", "reloads", ("again",), ["again"], "near", "lost"]:
            self.wrong(("far", value, "lost"), (1,))
        for value in any_values() + ["keep", "losts", ("kept",), ["lost"], "near", "again"]:
            self.wrong(("near", "again", value), (2,))

    def test_the_first_wrong_item(self):
        self.wrong(("stay", "near", "kept"), (0,))
        self.wrong((0, None, []), (0,))
        self.wrong(("near", None, []), (1,))
        self.wrong(("kept", "stay", "near"), (0,))
        self.wrong(("near", "kept", "stay"), (1,))

    def test_the_rule_comes_before_the_deed(self):
        graph = example()
        for call in (step, judge):
            with self.assertRaises(InvalidRule):
                call(graph, ("near", "stay", "keep"), zeros(graph), ("edit", "host", 2))
            with self.assertRaises(BadDeed):
                call(graph, ("near", "stay", "kept"), zeros(graph), ("edit", "host", 2))


if __name__ == "__main__":
    unittest.main()

"""The twelve rules, and what is a rule."""

import copy
import unittest

from swappedhot.alike import check_alike, check_unlike, rules_alike
from swappedhot.books import Book
from swappedhot.desk import Desk
from swappedhot.errors import BadDeed, InvalidRule
from swappedhot.healing import least_accepts, needless
from swappedhot.judging import judge
from swappedhot.live import Live
from swappedhot.rules import all_rules, check_rule
from swappedhot.swapping import step
from swappedhot.verdicts import check_closed, check_run, verdict
from tests.samples import any_values, example, zeros


class AllRules(unittest.TestCase):
    def test_the_example(self):
        self.assertEqual(all_rules()[:2], [("near", "reload", "kept"), ("near", "reload", "lost")])

    def test_the_twelve_in_order(self):
        self.assertEqual(all_rules(), [
            ("near", "reload", "kept"), ("near", "reload", "lost"),
            ("near", "stay", "kept"), ("near", "stay", "lost"),
            ("near", "again", "kept"), ("near", "again", "lost"),
            ("far", "reload", "kept"), ("far", "reload", "lost"),
            ("far", "stay", "kept"), ("far", "stay", "lost"),
            ("far", "again", "kept"), ("far", "again", "lost"),
        ])

    def test_a_new_list_each_time(self):
        rules = all_rules()
        rules.reverse()
        rules.pop()
        self.assertEqual(len(all_rules()), 12)
        self.assertEqual(all_rules()[0], ("near", "reload", "kept"))
        self.assertIsNot(all_rules(), all_rules())


class CheckRule(unittest.TestCase):
    def calls(self, graph, rule):
        """Everything that takes a rule; what else is passed is wrong wherever it can be."""
        live = Live(graph, all_rules()[0])
        return (
            lambda: check_rule(rule),
            lambda: step(graph, rule, zeros(graph), ("reload",)),
            lambda: step(graph, rule, zeros(graph), "no deed"),
            lambda: judge(graph, rule, zeros(graph), ("reload",)),
            lambda: judge(graph, rule, zeros(graph), "no deed"),
            lambda: Live(graph, rule),
            lambda: Live(graph, rule, state="no state"),
            lambda: live.use(rule),
            lambda: Book(graph, rule),
            lambda: Book(graph, rule, limit=0),
            lambda: verdict(graph, rule, ("astray", "")),
            lambda: verdict(graph, rule, "no fault", limit=0),
            lambda: check_run(graph, rule, "no fault", "no deeds"),
            lambda: check_closed(graph, rule, "no fault", "no states"),
            lambda: rules_alike(graph, rule, all_rules()[0]),
            lambda: rules_alike(graph, rule, "no rule", limit=0),
            lambda: rules_alike(graph, all_rules()[0], rule, limit=0),
            lambda: check_alike(graph, rule, "no rule", "no pairs"),
            lambda: check_alike(graph, all_rules()[0], rule, "no pairs"),
            lambda: check_unlike(graph, rule, "no rule", "no deeds"),
            lambda: check_unlike(graph, all_rules()[0], rule, "no deeds"),
            lambda: least_accepts(graph, rule, (), ()),
            lambda: least_accepts(graph, rule, "no kinds", "no choices", limit=0),
            lambda: needless(graph, rule, ()),
            lambda: needless(graph, rule, "no kinds", limit=0),
            lambda: Desk(graph, rule),
        )

    def wrong(self, value, path):
        before = copy.deepcopy(value)
        for call in self.calls(example(), value):
            with self.assertRaises(InvalidRule) as caught:
                call()
            self.assertEqual(caught.exception.path, path, value)
            self.assertIsInstance(caught.exception.path, tuple)
        self.assertEqual(repr(value), repr(before))

    def test_rules(self):
        for rule in all_rules():
            self.assertIsNone(check_rule(rule))

    def test_values_that_are_no_tuples_of_three(self):
        for value in any_values():
            self.wrong(value, ())
        for value in (("near", "stay"), ("near", "stay", "kept", "kept"), ["near", "stay", "kept"], "near", (),
                      {"near": 0, "stay": 1, "kept": 2}, (("near", "stay", "kept"),), "abc", ("near",)):
            self.wrong(value, ())

    def test_each_item(self):
        for value in any_values() + ["NEAR", "near ", "nea", ("near",), ["near"], "stay", "kept"]:
            self.wrong((value, "stay", "kept"), (0,))
        for value in any_values() + ["Stay", "reloads", ("again",), ["again"], "near", "lost"]:
            self.wrong(("far", value, "lost"), (1,))
        for value in any_values() + ["keep", "losts", ("kept",), ["lost"], "near", "again"]:
            self.wrong(("near", "again", value), (2,))

    def test_the_first_wrong_item(self):
        self.wrong(("stay", "near", "kept"), (0,))
        self.wrong((0, None, []), (0,))
        self.wrong(("near", None, []), (1,))
        self.wrong(("kept", "stay", "near"), (0,))
        self.wrong(("near", "kept", "stay"), (1,))

    def test_the_rule_comes_before_the_deed(self):
        graph = example()
        for call in (step, judge):
            with self.assertRaises(InvalidRule):
                call(graph, ("near", "stay", "keep"), zeros(graph), ("edit", "host", 2))
            with self.assertRaises(BadDeed):
                call(graph, ("near", "stay", "kept"), zeros(graph), ("edit", "host", 2))


if __name__ == "__main__":
    unittest.main()

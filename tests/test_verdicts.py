"""Verdicts: for each rule and fault one of two papers, and the checks of them."""

import copy
import random
import unittest

from swappedhot.books import Book
from swappedhot.errors import BadFault, BadLimit, InvalidRule, TooManyStates
from swappedhot.judging import judge
from swappedhot.rules import all_rules
from swappedhot.states import is_state
from swappedhot.swapping import step
from swappedhot.verdicts import check_closed, check_run, verdict
from tests import drawn
from tests.samples import (PLAIN, RED, any_values, celled, edition, example, fault_values, leaving, limit_values,
                           listening, program, with_true, zeros)
from tests.slow import SlowBook, after

LOST = ("near", "again", "lost")
LACKING = ("lacking", "util")


class Examples(unittest.TestCase):
    def test_a_run(self):
        self.assertEqual(verdict(example(), LOST, LACKING), ("run", (("edit", "host", 1),)))

    def test_closed(self):
        graph = example()
        kind, states = verdict(graph, LOST, ("more", "util"))
        self.assertEqual((kind, states), ("closed", tuple(Book(graph, LOST).states())))
        self.assertIsInstance(states, tuple)
        kind, states = verdict(graph, LOST, ("more", "util"), sets=False)
        self.assertEqual((kind, states), ("closed", tuple(Book(graph, LOST, sets=False).states())))

    def test_sets_matter(self):
        host = edition((), (("cell", "red"),), (("self",),))
        graph = program(main=(edition(("a",)),), a=(host, host))
        fault = ("dropped", "a")
        self.assertEqual(verdict(graph, LOST, fault), ("run", (("set", "a", "blue"), ("edit", "a", 1))))
        kind, states = verdict(graph, LOST, fault, sets=False)
        self.assertEqual(kind, "closed")
        self.assertIs(check_closed(graph, LOST, fault, states, sets=False), True)
        self.assertIs(check_closed(graph, LOST, fault, states, sets=True), False)
        self.assertIs(check_closed(graph, LOST, fault, states), False)
        self.assertIs(check_run(graph, LOST, fault, (("set", "a", "blue"), ("edit", "a", 1))), True)


class BothPapers(unittest.TestCase):
    """For drawn graphs, rules and faults: exactly one paper, and the checks of it and of spoiled ones."""

    def test_drawn_graphs(self):
        chance = random.Random(40)
        kinds = {"run": 0, "closed": 0}
        for graph, rule, sets in drawn.books(41, 45, most=40):
            slow = SlowBook(graph, rule, sets)
            for fault in fault_values(graph)[0]:
                told = (graph.modules, graph.top, graph.most, rule, sets, fault)
                kind, paper = verdict(graph, rule, fault, sets=sets)
                kinds[kind] += 1
                run = slow.least_run(fault)
                if kind == "run":
                    self.assertEqual(paper, tuple(run), told)
                    self.spoil_run(graph, rule, fault, paper, chance)
                    self.assertIs(check_closed(graph, rule, fault, tuple(slow.states), sets=sets), False, told)
                else:
                    self.assertIsNone(run, told)
                    self.assertEqual(paper, tuple(slow.states), told)
                    self.spoil_states(graph, rule, fault, paper, sets, chance)
                    for _ in range(5):
                        deeds = tuple([chance.choice(slow.deeds) for _ in range(chance.randint(1, 5))])
                        self.assertIs(check_run(graph, rule, fault, deeds), False, (told, deeds))
        self.assertGreater(kinds["run"], 60)
        self.assertGreater(kinds["closed"], 200)

    def spoil_run(self, graph, rule, fault, deeds, chance):
        def check(value):
            return check_run(graph, rule, fault, value)

        self.assertIs(check(deeds), True)
        self.assertIs(check(()), False)
        self.assertIs(check(list(deeds)), False)
        self.assertIs(check(deeds[:-1]), False)
        self.assertIs(check(deeds + (None,)), False)
        self.assertIs(check((list(deeds[0]),) + deeds[1:]), False)
        self.assertIs(check(deeds[:-1] + (with_true(("edit", graph.top, 0)),) + deeds[-1:]), False)
        at = chance.randrange(len(deeds))
        less = deeds[:at] + deeds[at + 1:]
        self.assertIs(check(less), has_fault(graph, rule, less, fault))
        other = tuple([chance.choice(drawn.deeds_of(graph)) for _ in range(3)]) + deeds[-1:]
        self.assertIs(check(other), has_fault(graph, rule, other, fault))

    def spoil_states(self, graph, rule, fault, states, sets, chance):
        def check(value):
            return check_closed(graph, rule, fault, value, sets=sets)

        self.assertIs(check(states), True)
        mixed = list(states)
        chance.shuffle(mixed)
        self.assertIs(check(tuple(mixed)), True)
        self.assertIs(check(mixed), False)
        self.assertIs(check(()), False)
        self.assertIs(check(states + (chance.choice(states),)), False)
        self.assertIs(check(states + (None,)), False)
        at = chance.randrange(len(states))
        less = states[:at] + states[at + 1:]
        self.assertIs(check(less), False)
        self.assertIs(check(less + (with_true(states[at]),)), False)
        self.assertIs(check(less + (list(states[at]),)), False)


def has_fault(graph, rule, deeds, fault):
    """Whether the last one of the deeds has the fault, if there are any deeds."""
    state = zeros(graph)
    for deed in deeds[:-1]:
        state = after(graph, rule, state, deed)
    return bool(deeds) and fault in judge(graph, rule, state, deeds[-1])


class CheckRun(unittest.TestCase):
    def test_it_need_not_be_the_least_run(self):
        graph = example()
        long = (("fire", "tick"), ("set", "host", "blue"), ("reload",), ("edit", "host", 1), ("fire", "tick"))
        self.assertIs(check_run(graph, LOST, LACKING, long), True)
        self.assertIs(check_run(graph, LOST, LACKING, long + (("reload",),)), False)
        self.assertIs(check_run(graph, LOST, LACKING, long[:3]), False)

    def test_only_the_last_deed_counts(self):
        graph = example()
        deeds = (("edit", "host", 1), ("reload",))
        self.assertIs(check_run(graph, LOST, LACKING, deeds), False)
        self.assertIs(check_run(graph, LOST, LACKING, deeds[:1]), True)

    def test_behind_a_refused_deed_the_next_one_is_done(self):
        graph = listening()
        deeds = tuple([("edit", "a", number) for number in (1, 0, 1)])
        self.assertIs(check_run(graph, LOST, ("crowded", ""), deeds), True)
        self.assertIs(check_run(graph, LOST, ("crowded", ""), deeds + (("fire", "tick"),)), False)
        self.assertIs(check_run(graph, LOST, ("crowded", ""), deeds + (("edit", "a", 1),)), True)
        self.assertIs(check_run(graph, LOST, ("doubled", "main"), deeds + (("fire", "tick"),)), True)
        self.assertIs(check_run(graph, LOST, ("doubled", "main"), deeds), True)

    def test_any_value(self):
        graph = example()
        for value in any_values() + [(value,) for value in any_values()] + [(("edit", "host", 1), value)
                                                                           for value in any_values()]:
            before = copy.deepcopy(value)
            self.assertIs(check_run(graph, LOST, LACKING, value), False)
            self.assertEqual(repr(value), repr(before))
        for deed in (("edit", "host", 2), ("edit", "host", True), ("fire", "tock"), ("set", "host", "green"), "reload",
                     ("reload", 0), ("edit", "nobody", 0)):
            self.assertIs(check_run(graph, LOST, LACKING, (("edit", "host", 1), deed)), False)
            self.assertIs(check_run(graph, LOST, LACKING, (deed, ("edit", "host", 1))), False)

    def test_a_long_run(self):
        deeds = (("edit", "host", 1), ("edit", "host", 0)) * 1500
        self.assertIs(check_run(example(), LOST, LACKING, deeds), True)
        self.assertIs(check_run(example(), LOST, ("behind", "host"), deeds), False)


class CheckClosed(unittest.TestCase):
    def test_states_that_cannot_be_reached_may_stand_among_them(self):
        graph = program(main=(RED,))
        states = verdict(graph, LOST, ("elder", "main"))[1]
        nothing = ((0,), (), (None,), ())
        self.assertTrue(is_state(graph, nothing))
        self.assertNotIn(nothing, states)
        self.assertIs(check_closed(graph, LOST, ("elder", "main"), states + (nothing,)), True)
        self.assertIs(check_closed(graph, LOST, ("elder", "main"), (nothing,) + states), True)
        self.assertIs(check_closed(graph, LOST, ("lacking", "main"), states + (nothing,)), False)
        self.assertIs(check_closed(graph, LOST, ("lacking", "main"), states), True)
        self.assertIs(check_closed(graph, LOST, ("elder", "main"), (nothing,)), False)

    def test_the_start_is_among_them(self):
        graph = program(main=(PLAIN, PLAIN))
        other = ((1,), (("main", 1, None, (), ()),), (0,), ())
        rule = ("near", "again", "lost")
        self.assertIs(check_closed(graph, rule, ("elder", "main"), (zeros(graph), other)), True)
        self.assertIs(check_closed(graph, rule, ("elder", "main"), (other, zeros(graph))), True)
        self.assertIs(check_closed(graph, rule, ("elder", "main"), (zeros(graph),)), False)
        self.assertIs(check_closed(graph, rule, ("elder", "main"), (other,)), False)

    def test_faults_of_deeds(self):
        """The fault "reloaded" and the fault "crowded" do not show in the states."""
        graph = program(main=(PLAIN, PLAIN))
        rule = ("near", "reload", "lost")
        states = tuple(Book(graph, rule).states())
        self.assertIs(check_closed(graph, rule, ("reloaded", ""), states), False)
        self.assertIs(check_closed(graph, rule, ("behind", "main"), states), True)
        states = tuple(Book(listening(), LOST).states())
        self.assertIs(check_closed(listening(), LOST, ("crowded", ""), states), False)
        self.assertIs(check_closed(listening(), LOST, ("reloaded", ""), states), True)

    def test_a_deed_leads_outside(self):
        graph = example()
        states = tuple(Book(graph, LOST, sets=False).states())
        self.assertIs(check_closed(graph, LOST, ("behind", "host"), states, sets=False), True)
        self.assertIs(check_closed(graph, LOST, ("behind", "host"), states, sets=True), False)
        self.assertIs(check_closed(graph, LOST, ("behind", "host"), states), False)
        states = tuple(Book(graph, LOST).states())
        self.assertIs(check_closed(graph, LOST, ("behind", "host"), states, sets=False), True)

    def test_any_value(self):
        graph = example()
        states = tuple(Book(graph, LOST).states())
        self.assertIs(check_closed(graph, LOST, ("more", "util"), states), True)
        for value in any_values():
            before = copy.deepcopy(value)
            self.assertIs(check_closed(graph, LOST, ("more", "util"), value), False)
            self.assertIs(check_closed(graph, LOST, ("more", "util"), (value,)), False)
            self.assertIs(check_closed(graph, LOST, ("more", "util"), states + (value,)), False)
            self.assertEqual(repr(value), repr(before))
        self.assertIs(check_closed(graph, LOST, ("more", "util"), zeros(graph)), False)


class Errors(unittest.TestCase):
    def calls(self, rule, fault, limit=2000):
        graph = example()
        yield lambda: verdict(graph, rule, fault, limit=limit)
        yield lambda: verdict(graph, rule, fault, sets=False, limit=limit)
        yield lambda: check_run(graph, rule, fault, (("edit", "host", 1),))
        yield lambda: check_run(graph, rule, fault, None)
        yield lambda: check_closed(graph, rule, fault, (zeros(graph),))
        yield lambda: check_closed(graph, rule, fault, None, sets=False)

    def test_wrong_rules(self):
        for value in any_values():
            for fault in (LACKING, None, ("lacking", "")):
                for call in self.calls(value, fault, 0):
                    with self.assertRaises(InvalidRule) as caught:
                        call()
                    self.assertEqual(caught.exception.path, ())

    def test_wrong_faults(self):
        right, wrong = fault_values(example())
        for value in wrong:
            before = copy.deepcopy(value)
            for call in self.calls(LOST, value, 0):
                with self.assertRaises(BadFault) as caught:
                    call()
                self.assertEqual(repr(caught.exception.fault), repr(before))
            self.assertEqual(repr(value), repr(before))
        for value in right:
            for call in self.calls(LOST, value):
                call()

    def test_wrong_limits(self):
        for value in limit_values():
            with self.assertRaises(BadLimit) as caught:
                verdict(example(), LOST, LACKING, limit=value)
            self.assertEqual(repr(caught.exception.limit), repr(value))

    def test_limits(self):
        for graph, rule, sets in drawn.books(42, 15):
            many = len(Book(graph, rule, sets=sets))
            for fault in fault_values(graph)[0]:
                self.assertEqual(verdict(graph, rule, fault, sets=sets, limit=many),
                                 verdict(graph, rule, fault, sets=sets))
                with self.assertRaises(TooManyStates) as caught:
                    verdict(graph, rule, fault, sets=sets, limit=many - 1)
                self.assertEqual(caught.exception.limit, many - 1)

    def test_the_limit_if_none_is_named(self):
        rule = ("near", "reload", "kept")
        kind, states = verdict(celled(2, 3, 2, 2), rule, ("behind", "a"))
        self.assertEqual((kind, len(states)), ("closed", 1944))
        for fault in (("behind", "a"), ("reloaded", "")):
            with self.assertRaises(TooManyStates) as caught:
                verdict(celled(1, 3, 3, 3), rule, fault)
            self.assertEqual(caught.exception.limit, 2000)

    def test_the_order(self):
        bad = ("near", "near", "lost")
        for rule, fault, limit, error in ((bad, LACKING, 0, InvalidRule), (bad, "no", 1, InvalidRule),
                                          (LOST, "no", 0, BadFault), (LOST, "no", 1, BadFault),
                                          (LOST, LACKING, 0, BadLimit), (LOST, LACKING, 1, TooManyStates)):
            with self.assertRaises(error):
                verdict(example(), rule, fault, limit=limit)


class AllRules(unittest.TestCase):
    def test_the_examples_of_the_document(self):
        for graph in (example(), leaving(), listening()):
            for rule in all_rules():
                for fault in fault_values(graph)[0]:
                    kind, paper = verdict(graph, rule, fault)
                    if kind == "run":
                        self.assertTrue(check_run(graph, rule, fault, paper))
                        state = zeros(graph)
                        for deed in paper[:-1]:
                            state = step(graph, rule, state, deed).state
                        self.assertIn(fault, judge(graph, rule, state, paper[-1]))
                    else:
                        self.assertTrue(check_closed(graph, rule, fault, paper))


if __name__ == "__main__":
    unittest.main()

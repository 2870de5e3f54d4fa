"""Steps: their errors in order, what a refusal refuses, and the traces of all deeds."""

import copy
import unittest

from swappedhot.errors import BadDeed, InvalidRule, TooMany
from swappedhot.judging import judge, state_faults
from swappedhot.rules import all_rules
from swappedhot.states import is_state
from swappedhot.swapping import Step, calls_of, step
from tests.samples import PLAIN, RED, SELF, accepting, after, edition, example, program, rules, zeros

NEAR = ("near", "again", "kept")


def holding(most):
    """Each edit of a leaves an old instance of it, until nobody holds it any more."""
    main = edition(("a",), (("hold", "h", "a"),), accepting("a"))
    return program(most=most, main=(main,), a=(PLAIN, PLAIN, PLAIN))


def listening(most):
    """Each edit of a leads to one more listener."""
    main = edition(("a",), (), (("a", (("listen", "tick", "a"),)),))
    return program(most=most, main=(main,), a=(PLAIN, PLAIN), b=(PLAIN, PLAIN))


def entering(most):
    """Each edit of a leads to one more entry of b."""
    main = edition(("a", "b"), (), (("a", (("enter", "b"),)),))
    return program(most=most, main=(main,), a=(PLAIN, PLAIN), b=(PLAIN,))


class Refusals(unittest.TestCase):
    def refused(self, graph, state, deed, what, *words):
        self.assertTrue(is_state(graph, state))
        before, copied = copy.deepcopy(state), copy.deepcopy(graph)
        for rule in rules(*words):
            with self.assertRaises(TooMany) as caught:
                step(graph, rule, state, deed)
            self.assertEqual(caught.exception.what, what)
            self.assertEqual(judge(graph, rule, state, deed), state_faults(graph, state) + [("crowded", "")])
            self.assertEqual(repr(state), repr(before))
            self.assertEqual((graph == copied, graph.names), (True, copied.names))
        for event in graph.events:
            self.assertEqual(calls_of(graph, state, event), calls_of(graph, before, event))

    def test_instances(self):
        self.refused(holding(2), zeros(holding(2)), ("edit", "a", 1), "instances")
        done = after(holding(3), NEAR, ("edit", "a", 1), ("edit", "a", 2))
        self.assertEqual(done, ((0, 2), (("main", 0, None, (("h", 1),), ()), ("a", 0, None, (), ()),
                                         ("a", 2, None, (), ())), (0, 2), ()))

    def test_instances_that_are_forgotten_do_not_count(self):
        graph = program(most=2, main=(edition(("a",), accepts=accepting("a")),), a=(RED, RED))
        self.assertEqual(len(after(graph, NEAR, ("edit", "a", 1), ("edit", "a", 0), ("edit", "a", 1))[1]), 2)

    def test_instances_that_only_own_listeners_count(self):
        listens = edition((), (("listenheld", "tick", "h"),))
        graph = program(most=3, main=(edition(("a",), accepts=accepting("a")),), a=(listens, listens))
        state = after(graph, NEAR, ("edit", "a", 1))
        self.refused(graph, state, ("edit", "a", 0), "instances")

    def test_listeners(self):
        for most in (2, 3):
            graph = listening(most)
            deeds = [("edit", "a", (number + 1) % 2) for number in range(most + 1)]
            state = after(graph, NEAR, *deeds[:most])
            self.assertEqual(state[3], ((0, "tick", "listen", "a"),) * most)
            self.refused(graph, state, deeds[most], "listeners")

    def test_entries(self):
        for most in (3, 4):
            graph = entering(most)
            deeds = [("edit", "a", (number + 1) % 2) for number in range(most + 1)]
            state = after(graph, NEAR, *deeds[:most])
            self.assertEqual(state[1][1], ("b", 0, None, (), (0,) * most))
            self.refused(graph, state, deeds[most], "entries")

    def test_behind_a_refusal_everything_is_as_before(self):
        graph = listening(2)
        state = after(graph, NEAR, ("edit", "a", 1), ("edit", "a", 0))
        self.refused(graph, state, ("edit", "a", 1), "listeners")
        self.assertEqual(step(graph, NEAR, state, ("edit", "b", 1)).state, ((0, 0, 1),) + state[1:])
        self.assertEqual(step(graph, NEAR, state, ("edit", "a", 0)).state, state)
        self.assertEqual(step(graph, NEAR, state, ("reload",)).state, zeros(graph))

    def test_what_has_been_done_before_the_refusal_is_refused_too(self):
        a = edition((), (("cell", "red"), ("listenheld", "tick", "h")), (), (("unlisten",), ("carry",)))
        rows = (("hold", "h", "a"), ("enter", "a"), ("enter", "b"))
        graph = program(most=3, main=(edition(("a", "b"), (), (("a", rows),)),), a=(a, a), b=(PLAIN,))
        state = ((0, 0, 0), (("main", 0, None, (), ()), ("a", 0, "blue", (), ()), ("b", 0, None, (), (0, 0, 0))),
                 (0, 1, 2), ((1, "tick", "listenheld", "h"),))
        self.refused(graph, state, ("edit", "a", 1), "entries")

    def test_the_first_bound_that_is_passed(self):
        accepts = (("a", (("enter", "a"),) * 3),)
        a = (PLAIN, edition(("main",), (("listen", "tick", "main"),) * 2))
        graph = program(most=2, main=(edition(("a",), (), accepts),), a=a)
        state = zeros(graph)
        self.refused(graph, state, ("edit", "a", 1), "entries")
        self.refused(graph, state[:3] + (((0, "tick", "listen", "a"),),), ("edit", "a", 1), "listeners")
        graph = program(most=2, main=(edition(("a",), (("hold", "h", "a"),), accepts),), a=a)
        state = zeros(graph)
        self.refused(graph, state[:3] + (((0, "tick", "listen", "a"),),), ("edit", "a", 1), "instances")

    def test_modules_of_own_are_refused_as_well(self):
        graph = program(most=2, main=(edition(("a",), (("hold", "h", "a"),)),), a=(edition(accepts=SELF), PLAIN))
        self.refused(graph, zeros(graph), ("edit", "a", 1), "instances")
        main = edition(("a",), (("listen", "tick", "a"), ("listen", "tock", "a")))
        graph = program(most=3, main=(main,), a=(PLAIN, PLAIN))
        self.refused(graph, zeros(graph), ("edit", "a", 1), "listeners", "again")

    def test_imports_that_are_run_are_refused_as_well(self):
        a = (edition(accepts=SELF), edition(("b",), accepts=SELF))
        graph = program(most=3, main=(edition(("a",), (("hold", "h", "a"),)),), a=a, b=(PLAIN,))
        self.refused(graph, zeros(graph), ("edit", "a", 1), "instances")

    def test_exactly_most(self):
        state = after(holding(3), NEAR, ("edit", "a", 1))
        self.assertEqual(len(state[1]), 3)
        crowd = (("enter", "a"),) * 2 + (("listen", "tick", "a"),)
        graph = program(most=2, main=(edition(("a",), (("listen", "tick", "a"),), (("a", crowd),)),), a=(PLAIN, PLAIN))
        state = after(graph, NEAR, ("edit", "a", 1))
        self.assertEqual((state[1][1][4], len(state[3])), ((0, 0), 2))

    def test_a_reload_is_never_refused(self):
        graph = holding(2)
        state = zeros(graph)
        self.assertEqual(step(graph, NEAR, state, ("reload",)).state, state)
        listener = (0, "tick", "listen", "a")
        graph = listening(2)
        full = zeros(graph)[:3] + ((listener, listener),)
        self.assertEqual(step(graph, NEAR, full, ("reload",)).state, zeros(graph))


class Errors(unittest.TestCase):
    def test_the_first_in_the_order_counts(self):
        graph, bad = holding(2), ("near", "again", "no")
        for deed in (("edit", "a", 3), ("edit", "a", 1), None, ("reload",)):
            for call in (step, judge):
                with self.assertRaises(InvalidRule) as caught:
                    call(graph, bad, zeros(graph), deed)
                self.assertEqual(caught.exception.path, (2,))
        for call in (step, judge):
            with self.assertRaises(BadDeed) as caught:
                call(graph, NEAR, zeros(graph), ("edit", "a", 3))
            self.assertEqual(caught.exception.deed, ("edit", "a", 3))
        with self.assertRaises(TooMany):
            step(graph, NEAR, zeros(graph), ("edit", "a", 1))


class Steps(unittest.TestCase):
    def test_the_attributes(self):
        made = step(example(), NEAR, zeros(example()), ("fire", "tick"))
        self.assertIsInstance(made, Step)
        self.assertEqual(vars(made), {"state": zeros(example()), "calls": (("main", 0, "util", 0, ""),), "trace": ()})

    def test_traces(self):
        graph = program(main=(edition(("a",), accepts=accepting("a")), edition(("a", "b"))), a=(PLAIN, PLAIN),
                        b=(RED, RED))
        state = zeros(graph)
        whole = (("reload",), ("run", "main"), ("run", "a"))
        for rule in all_rules():
            for deed in (("fire", "tick"), ("fire", "tock"), ("set", "main", "red"), ("set", "b", "blue"),
                         ("edit", "main", 0), ("edit", "a", 0), ("edit", "b", 0), ("edit", "b", 1)):
                self.assertEqual(step(graph, rule, state, deed).trace, (), deed)
            self.assertEqual(step(graph, rule, state, ("reload",)).trace, whole)
            self.assertEqual(step(graph, rule, state, ("edit", "a", 1)).trace,
                             (("away", "a"), ("run", "a"), ("accept", "main", "a")))
            wanted = {"reload": whole + (("run", "b"),), "stay": (),
                      "again": (("away", "main"), ("run", "main"), ("run", "b"))}[rule[1]]
            self.assertEqual(step(graph, rule, state, ("edit", "main", 1)).trace, wanted)

    def test_only_fires_have_calls(self):
        graph = example()
        for rule in all_rules():
            for deed in (("edit", "host", 1), ("edit", "host", 0), ("set", "host", "blue"), ("reload",)):
                self.assertEqual(step(graph, rule, zeros(graph), deed).calls, ())

    def test_nothing_is_modified(self):
        graph, state = example(), zeros(example())
        before = copy.deepcopy(state)
        for rule in all_rules():
            for deed in (("edit", "host", 1), ("set", "host", "blue"), ("reload",), ("fire", "tick")):
                first, second = step(graph, rule, state, deed), step(graph, rule, state, deed)
                self.assertEqual(vars(first), vars(second))
                self.assertEqual((state, graph == example()), (before, True))


if __name__ == "__main__":
    unittest.main()

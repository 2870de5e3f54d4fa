"""Judging: several faults in their order, refused deeds, and errors."""

import copy
import random
import unittest

from swappedhot.errors import BadDeed, InvalidRule
from swappedhot.judging import KINDS, judge, state_faults
from swappedhot.rules import all_rules
from swappedhot.states import is_state
from swappedhot.swapping import step
from tests import drawn
from tests.samples import (BLUE, PLAIN, RED, SELF, accepting, after, any_values, edition, example, leaving, program,
                           rules, zeros)

LOST = ("near", "again", "lost")
RELOAD = ("near", "reload", "lost")


class Examples(unittest.TestCase):
    def test_a_lost_entry(self):
        self.assertEqual(judge(example(), LOST, zeros(example()), ("edit", "host", 1)),
                         [("lacking", "util"), ("dropped", "host")])

    def test_near_and_far(self):
        for order, wanted in (("near", [("elder", "util"), ("elder", "host")]), ("far", [("elder", "host")])):
            rule = (order, "again", "kept")
            self.assertEqual(judge(leaving(), rule, zeros(leaving()), ("edit", "host", 1)), wanted)


class Order(unittest.TestCase):
    def crowd(self):
        """A graph and a state of it that has nearly everything wrong; zoo comes before all, by its place."""
        zoo = edition(("main",), (("cell", "red"), ("listen", "tick", "main")))
        graph = program(zoo=(zoo, RED, BLUE), main=(edition(("zoo", "a"), (("hold", "h", "a"),)), PLAIN), a=(RED, BLUE),
                        spare=(PLAIN,))
        state = ((0, 0, 0, 0),
                 (("zoo", 1, "blue", (), (1,)), ("main", 1, None, (), ()), ("a", 0, "red", (), ()),
                  ("spare", 0, None, (), (0,)), ("zoo", 0, "red", (), ())),
                 (0, 1, None, 3),
                 ((4, "tock", "listen", "main"), (2, "tick", "listenheld", "h")))
        return graph, state

    def test_several_faults(self):
        graph, state = self.crowd()
        self.assertTrue(is_state(graph, state))
        self.assertEqual(state_faults(graph, state), [
            ("behind", "zoo"), ("behind", "main"), ("elder", "zoo"), ("elder", "a"), ("doubled", "zoo"),
            ("doubled", "main"), ("doubled", "a"), ("lacking", "zoo"), ("lacking", "main"), ("lacking", "a"),
            ("more", "spare"), ("astray", "")])

    def test_faults_of_a_deed_come_behind_those_of_the_state(self):
        graph, state = self.crowd()
        for rule in rules("reload"):
            self.assertEqual(judge(graph, rule, state, ("reload",)), [("dropped", "zoo")])
            self.assertEqual(judge(graph, rule, state, ("edit", "main", 1)), [("reloaded", "")])
        graph = program(main=(edition(("b", "a"), (("cell", "red"),)),), a=(RED,), b=(RED, RED))
        before = after(graph, RELOAD, *[("set", name, "blue") for name in ("b", "main", "a")])
        self.assertEqual(judge(graph, RELOAD, before, ("edit", "b", 1)),
                         [("dropped", "main"), ("dropped", "a"), ("dropped", "b"), ("reloaded", "")])

    def test_drawn_states(self):
        chance = random.Random(3)
        for _ in range(150):
            graph = drawn.draw_graph(chance)
            state = drawn.draw_state(chance, graph)
            for deed in drawn.deeds_of(graph):
                found = judge(graph, chance.choice(all_rules()), state, deed)
                keys = [(KINDS.index(kind), (("",) + graph.names).index(name)) for kind, name in found]
                self.assertEqual(keys, sorted(set(keys)))
                for kind, name in found:
                    self.assertEqual(name == "", kind in ("astray", "reloaded", "crowded"))


class RefusedDeeds(unittest.TestCase):
    def test_they_are_judged_in_the_state_before(self):
        main = edition(("a",), (("hold", "h", "a"),), accepting("a"))
        graph = program(most=3, main=(main,), a=(RED, BLUE, RED))
        state = after(graph, LOST, ("edit", "a", 1))
        for rule in all_rules():
            self.assertEqual(state_faults(graph, state), [("elder", "a")])
            self.assertEqual(judge(graph, rule, state, ("set", "a", "red")), [("elder", "a")])
        listener = (1, "tick", "listenheld", "h")
        full = ((0, 1), (("main", 0, None, (("h", 1),), ()), ("a", 0, "red", (), ()), ("a", 1, "blue", (), ())), (0, 2),
                (listener,) * 3)
        wanted = [("elder", "a"), ("doubled", "a"), ("astray", ""), ("crowded", "")]
        graph = program(most=3, main=(edition(("a",), (("hold", "h", "a"),), (("a", (("listen", "tick", "a"),)),)),),
                        a=(RED, BLUE))
        for rule in all_rules():
            self.assertEqual(judge(graph, rule, full, ("edit", "a", 0)), wanted)

    def test_the_sources_are_those_before(self):
        graph = program(most=2, main=(edition(("a",), (("hold", "h", "a"),), accepting("a")),), a=(PLAIN, PLAIN))
        for rule in all_rules():
            self.assertEqual(judge(graph, rule, zeros(graph), ("edit", "a", 1)), [("crowded", "")])


class Lists(unittest.TestCase):
    def test_a_new_list_each_time(self):
        graph, state = example(), after(example(), LOST, ("edit", "host", 1))
        for call in (lambda: state_faults(graph, state), lambda: judge(graph, LOST, state, ("fire", "tick"))):
            found = call()
            self.assertIsInstance(found, list)
            found.clear()
            self.assertEqual(call(), [("lacking", "util")])

    def test_nothing_is_modified(self):
        graph, state = example(), after(example(), LOST, ("edit", "host", 1))
        before = copy.deepcopy(state)
        for deed in drawn.deeds_of(graph):
            self.assertEqual(judge(graph, LOST, state, deed), judge(graph, LOST, state, deed))
        self.assertEqual((state, graph == example()), (before, True))

    def test_each_deed_is_judged_by_its_step(self):
        graph, state = leaving(), zeros(leaving())
        for rule in all_rules():
            for deed in drawn.deeds_of(graph):
                found = [fault for fault in judge(graph, rule, state, deed) if fault[0] not in KINDS[6:]]
                self.assertEqual(found, state_faults(graph, step(graph, rule, state, deed).state))


class Errors(unittest.TestCase):
    def test_wrong_rules(self):
        for value in any_values():
            with self.assertRaises(InvalidRule) as caught:
                judge(example(), value, zeros(example()), ("reload",))
            self.assertEqual(caught.exception.path, ())

    def test_wrong_deeds(self):
        for value in any_values() + [("edit", "host", True), ("edit", "host", 2), ["reload"], ("fire", "tock")]:
            with self.assertRaises(BadDeed) as caught:
                judge(example(), LOST, zeros(example()), value)
            self.assertEqual(repr(caught.exception.deed), repr(value))

    def test_too_many_is_no_error_here(self):
        graph = program(most=2, main=(edition(("a",), (("hold", "h", "a"),)),), a=(edition(accepts=SELF), PLAIN))
        self.assertEqual(judge(graph, LOST, zeros(graph), ("edit", "a", 1)), [("crowded", "")])


if __name__ == "__main__":
    unittest.main()

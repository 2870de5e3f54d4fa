"""The program compared with a second reading of the document, over drawn graphs, states and deeds."""

import random
import unittest

from swappedhot.climbing import climb, importers
from swappedhot.errors import TooMany
from swappedhot.judging import judge, state_faults
from swappedhot.rules import all_rules
from swappedhot.states import is_state
from swappedhot.swapping import calls_of, step
from tests import drawn, second


def done(graph, rule, state, deed):
    """What a step gives, in the form of the second reading."""
    try:
        made = step(graph, rule, state, deed)
    except TooMany as error:
        return error.what
    return (made.state, made.calls, made.trace)


class Compared(unittest.TestCase):
    def compare(self, graph, state, rules, deeds):
        for name in graph.names:
            self.assertEqual(importers(graph, state, name), second.importers(graph, state, name))
            self.assertEqual(climb(graph, state, name), second.climb(graph, state, name))
        for event in graph.events:
            self.assertEqual(calls_of(graph, state, event), second.calls(graph, state, event))
        self.assertEqual(state_faults(graph, state), second.ordered(graph, second.faults(graph, state)))
        for rule in rules:
            for deed in deeds:
                told = (graph.modules, graph.top, graph.most, rule, state, deed)
                wanted = second.step(graph, rule, state, deed)
                self.assertEqual(done(graph, rule, state, deed), wanted, told)
                self.assertEqual(judge(graph, rule, state, deed), second.judge(graph, rule, state, deed), told)
                if not isinstance(wanted, str):
                    self.assertTrue(is_state(graph, wanted[0]), told)

    def test_states_that_deeds_reach(self):
        chance = random.Random(1)
        for _ in range(120):
            graph = drawn.draw_graph(chance)
            rule = chance.choice(all_rules())
            for state in drawn.walk(chance, graph, rule, 8)[2:]:
                self.compare(graph, state, [rule], drawn.deeds_of(graph))

    def test_states_that_perhaps_no_deed_reaches(self):
        chance = random.Random(2)
        for _ in range(250):
            graph = drawn.draw_graph(chance)
            state = drawn.draw_state(chance, graph)
            self.compare(graph, state, chance.sample(all_rules(), 3), drawn.deeds_of(graph))


if __name__ == "__main__":
    unittest.main()

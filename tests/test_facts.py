"""The facts that follow from the document, over drawn graphs, rules and deeds."""

import random
import unittest

from swappedhot.errors import TooMany
from swappedhot.judging import judge
from swappedhot.rules import all_rules
from swappedhot.running import start
from swappedhot.states import is_state
from swappedhot.swapping import step
from tests import drawn
from tests.samples import SELF, rules


def kinds(faults):
    return {kind for kind, _ in faults}


def result(graph, rule, state, deed):
    """What a deed shows and leads to; the trace may tell apart what the fact does not speak of."""
    try:
        made = step(graph, rule, state, deed)
    except TooMany as error:
        return error.what
    return (made.state, made.calls)


def self_accepting(accepts):
    return accepts if ("self",) in accepts else accepts + SELF


def without(word):
    return lambda part: [row for row in part if row[0] != word]


def tidy(modules):
    """All editions of a module import the same; no links but listeners, which are removed again."""
    made = []
    for name, editions in modules:
        imports = editions[0][0]
        tidied = []
        for _, body, accepts, cleanup in editions:
            body = tuple([row for row in body if row[0] == "cell" or row[0] == "listen" and row[2] in imports])
            accepts = tuple([item if item == ("self",) else (item[0], ()) for item in accepts
                             if item == ("self",) or item[0] in imports])
            cleanup = tuple([row for row in cleanup if row[0] != "leave" or row[1] in imports])[:3]
            tidied.append((imports, body, accepts, cleanup + (("unlisten",),)))
        made.append((name, tuple(tidied)))
    return tuple(made)


class Facts(unittest.TestCase):
    """Each test looks at all deeds from the states on drawn ways under one rule."""

    graphs, length = 60, 6

    def drawn(self, seed, change=lambda modules: modules, among=()):
        """Yield the graph, the rule, a state and a deed; the rules are all those with the words."""
        chance = random.Random(seed)
        for _ in range(self.graphs):
            graph = drawn.draw_graph(chance, change)
            rule = chance.choice([rule for rule in all_rules() if not among or rule[1] in among])
            for state in drawn.walk(chance, graph, rule, self.length):
                for deed in drawn.deeds_of(graph):
                    yield graph, rule, state, deed

    def test_reached_states_are_states(self):
        for graph, rule, state, deed in self.drawn(10):
            self.assertTrue(is_state(graph, state))
            after = result(graph, rule, state, deed)
            self.assertTrue(isinstance(after, str) or is_state(graph, after[0]))

    def test_behind_a_reload_only_dropped(self):
        for graph, rule, state, deed in self.drawn(11):
            if deed == ("reload",):
                self.assertLessEqual(kinds(judge(graph, rule, state, deed)), {"dropped"})
                self.assertEqual(step(graph, rule, state, deed).state, start(graph, state[0]))

    def test_stay_and_again_do_not_reload(self):
        for graph, rule, state, deed in self.drawn(12, among=("stay", "again")):
            self.assertNotIn("reloaded", kinds(judge(graph, rule, state, deed)))

    def test_reload_and_again_leave_nothing_behind(self):
        for graph, rule, state, deed in self.drawn(13, among=("reload", "again")):
            self.assertNotIn("behind", kinds(judge(graph, rule, state, deed)))

    def test_if_every_edition_accepts_itself(self):
        for graph, rule, state, deed in self.drawn(14, drawn.changed(2, self_accepting)):
            self.assertFalse(kinds(judge(graph, rule, state, deed)) & {"reloaded", "behind"})
            found = [result(graph, other, state, deed) for other in rules(rule[0], rule[2])]
            self.assertEqual((len(found), found[1], found[2]), (3, found[0], found[0]))

    def test_if_no_edition_has_a_leave_row(self):
        for graph, rule, state, deed in self.drawn(15, drawn.changed(3, without("leave"))):
            near, far = [result(graph, other, state, deed) for other in rules(*rule[1:])]
            self.assertEqual(near, far)

    def test_if_no_edition_has_a_carry_row(self):
        for graph, rule, state, deed in self.drawn(16, drawn.changed(3, without("carry"))):
            kept, lost = [result(graph, other, state, deed) for other in rules(*rule[:2])]
            self.assertEqual(kept, lost)

    def test_tidy_programs(self):
        for graph, rule, state, deed in self.drawn(17, tidy, among=("reload", "again")):
            self.assertLessEqual(kinds(judge(graph, rule, state, deed)), {"dropped", "reloaded"})

    def test_if_no_edition_accepts_anything(self):
        edits = 0
        for graph, rule, state, deed in self.drawn(18, drawn.changed(2, lambda accepts: ()), among=("reload",)):
            at = graph.names.index(deed[1]) if deed[0] == "edit" else 0
            if deed[0] == "edit" and state[0][at] != deed[2] and state[2][at] is not None:
                after = step(graph, rule, state, deed).state
                self.assertEqual(after, start(graph, after[0]))
                edits += 1
        self.assertGreater(edits, 100)

    def test_the_facts_are_not_empty(self):
        """Without what the facts ask for, the drawn programs do have the faults and the differences."""
        found = set()
        for graph, rule, state, deed in self.drawn(19):
            found |= kinds(judge(graph, rule, state, deed))
            for words, name in ((rule[1:], "order"), (rule[:2], "data"), ((rule[0], rule[2]), "past")):
                results = [result(graph, other, state, deed) for other in rules(*words)]
                if [each for each in results if each != results[0]]:
                    found.add(name)
        wanted = {"behind", "elder", "doubled", "lacking", "more", "astray", "dropped", "reloaded", "crowded",
                  "order", "data", "past"}
        self.assertEqual(found, wanted)


if __name__ == "__main__":
    unittest.main()

"""What the document promises over the whole program: any value, nothing modified, no list kept, new lists."""

import copy
import unittest

from swappedhot.alike import check_alike, check_unlike, rules_alike
from swappedhot.books import Book
from swappedhot.climbing import climb, importers
from swappedhot.counting import count_runs, distances
from swappedhot.desk import Desk
from swappedhot.errors import (BadChoice, BadDeed, BadFault, BadKinds, BadLength, BadLimit, BatchRefused, InvalidGraph,
                               InvalidRule, InvalidSources, NoModule, NoPlace, NotAState, SwapError)
from swappedhot.graphs import Graph
from swappedhot.healing import choices, least_accepts, needless, places, with_accepts, without_cleanup
from swappedhot.judging import KINDS, judge, state_faults
from swappedhot.live import Live
from swappedhot.rules import all_rules, check_rule
from swappedhot.running import start
from swappedhot.states import is_state
from swappedhot.swapping import calls_of, is_deed, step
from swappedhot.texts import read_deeds, read_graph, write_deeds, write_graph
from swappedhot.verdicts import check_closed, check_run, verdict
from tests.samples import any_values, example, leaving, nested, zeros

RULE = ("near", "again", "kept")
FAULT = ("elder", "util")


def takers(value):
    """Everything that takes any value, with the error that it raises or the value that it returns."""
    graph = leaving()
    live, book = Live(graph, RULE), Book(graph, RULE)
    return (
        (InvalidGraph, lambda: Graph(value, (), (), "main")),
        (InvalidGraph, lambda: Graph(("w",), value, value, value, most=value)),
        (InvalidGraph, lambda: Graph(("w",), (), (("main", ((value, value, value, value),)),), "main")),
        (InvalidGraph, lambda: Graph(("w",), (), (("main", (((), (value,), (value,), (value,)),)),), "main")),
        (NoModule, lambda: graph.editions(value)),
        (False, lambda: value in graph),
        (False, lambda: is_state(graph, value)),
        (False, lambda: is_state(graph, (value,) * 4)),
        (InvalidSources, lambda: start(graph, value)),
        (InvalidRule, lambda: check_rule(value)),
        (NoModule, lambda: climb(graph, zeros(graph), value)),
        (NoModule, lambda: importers(graph, zeros(graph), value)),
        (False, lambda: is_deed(graph, value)),
        (BadDeed, lambda: step(graph, RULE, zeros(graph), value)),
        (BadDeed, lambda: judge(graph, RULE, zeros(graph), value)),
        (NotAState, lambda: Live(graph, RULE, state=value)),
        (BadDeed, lambda: live.do(value)),
        (InvalidRule, lambda: live.use(value)),
        (BadDeed, lambda: live.edit(value, value)),
        (BadDeed, lambda: live.fire(value)),
        (NoModule, lambda: live[value]),
        (BadDeed, lambda: live.__setitem__(value, value)),
        (BatchRefused, lambda: live.__iadd__([value])),
        (BatchRefused, lambda: live.preview((value,))),
        (False, lambda: value in live),
        (BadLimit, lambda: Book(graph, RULE, limit=value)),
        (None, lambda: book.number(value)),
        (False, lambda: value in book),
        (BadFault, lambda: book.least_run(value)),
        (BadKinds, lambda: count_runs(book, value, 1)),
        (BadLength, lambda: count_runs(book, (), value)),
        (BadFault, lambda: verdict(graph, RULE, value)),
        (False, lambda: check_run(graph, RULE, FAULT, value)),
        (False, lambda: check_closed(graph, RULE, FAULT, value)),
        (BadLimit, lambda: rules_alike(graph, RULE, RULE, limit=value)),
        (False, lambda: check_alike(graph, RULE, RULE, value)),
        (False, lambda: check_unlike(graph, RULE, RULE, value)),
        (BadChoice, lambda: with_accepts(graph, [value])),
        (BadChoice, lambda: least_accepts(graph, RULE, (), value)),
        (BadChoice, lambda: least_accepts(graph, RULE, (), (value,))),
        (BadKinds, lambda: least_accepts(graph, RULE, value, ())),
        (BadLimit, lambda: least_accepts(graph, RULE, (), (), limit=value)),
        (NoPlace, lambda: without_cleanup(graph, value)),
        (BadKinds, lambda: needless(graph, RULE, value)),
        (BadLimit, lambda: needless(graph, RULE, (), limit=value)),
        (InvalidRule, lambda: Desk(graph, value)),
    )


class AnyValue(unittest.TestCase):
    def check(self, value):
        before = copy.deepcopy(value)
        for wanted, call in takers(value):
            if isinstance(wanted, type):
                with self.assertRaises(wanted) as caught:
                    call()
                self.assertIs(type(caught.exception), wanted)
                self.assertIsInstance(caught.exception, SwapError)
            else:
                self.assertIs(call(), wanted)
            self.assertEqual(repr(value), repr(before))

    def test_values_that_are_nothing_here(self):
        right = ("main", "()", "0", "1", "5", "None", repr(10 ** 3999), "(0, 0, 0, 0)")
        for value in any_values() + [[], {"main": ("util", "host")}, [["reload"]], "nobody", (False, False, False)]:
            if str(value) not in right:
                self.check(value)

    def test_no_value_is_too_deep(self):
        for shape in ("list", "tuple", "dict"):
            for depth in (20, 60):
                self.check(nested(shape, depth))


class Lists(unittest.TestCase):
    def test_every_list_is_a_new_one(self):
        graph = leaving()
        rule = ("near", "again", "kept")
        state = step(graph, rule, zeros(graph), ("edit", "host", 1)).state
        live, book = Live(graph, rule, state=state), Book(graph, rule)
        for call in (graph.all_sources, all_rules, lambda: state_faults(graph, state),
                     lambda: judge(graph, rule, zeros(graph), ("edit", "host", 1)), live.faults,
                     book.states, book.deeds, book.found, lambda: book.faults(0, 3), lambda: book.route(1),
                     lambda: book.least_run(FAULT),
                     lambda: distances(book), lambda: choices(graph), lambda: places(graph),
                     lambda: least_accepts(graph, rule, (), ()), lambda: needless(graph, rule, ())):
            before, spoiled = call(), call()
            self.assertIsInstance(spoiled, list)
            self.assertTrue(spoiled)
            self.assertIsNot(spoiled, before)
            spoiled.clear()
            self.assertEqual(call(), before)
            call().append("more")
            self.assertEqual(call(), before)

    def test_tuples_where_the_document_says_tuples(self):
        graph = leaving()
        live = Live(graph, RULE)
        live += [("edit", "host", 1)]
        for value in (live.done, verdict(graph, RULE, FAULT), verdict(graph, RULE, FAULT)[1],
                      verdict(graph, RULE, ("crowded", "")), verdict(graph, RULE, ("crowded", ""))[1],
                      rules_alike(graph, RULE, RULE), rules_alike(graph, RULE, RULE)[1], read_deeds("reload"),
                      read_deeds(""), calls_of(example(), zeros(example()), "tick"), live.do(("reload",)).trace):
            self.assertIsInstance(value, tuple)


class Graphs(unittest.TestCase):
    def test_no_graph_is_changed(self):
        graph, text = leaving(), write_graph(leaving())
        before = copy.deepcopy(vars(graph))
        for rule in all_rules():
            book = Book(graph, rule)
            count_runs(book, KINDS, 3)
            distances(book)
            rules_alike(graph, rule, RULE)
            verdict(graph, rule, FAULT)
            least_accepts(graph, rule, ("elder",), tuple(choices(graph))[:4])
            needless(graph, rule, KINDS)
            desk = Desk(graph, rule)
            desk |= "edit host 1\nstate\nreload\nundo"
        with_accepts(graph, choices(graph))
        without_cleanup(graph, ("util", 0, 0))
        write_deeds(desk.live.done)
        self.assertEqual(vars(graph), before)
        self.assertEqual(read_graph(text), graph)


if __name__ == "__main__":
    unittest.main()

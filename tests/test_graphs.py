"""What a graph offers."""

import unittest

from swappedhot.errors import NoModule
from swappedhot.graphs import Graph
from tests.samples import PLAIN, any_values, edition, example

HOST = edition((), (("cell", "red"),))


def make(words=("red", "blue"), events=("tick",), editions=(PLAIN, HOST), top="main", most=5):
    modules = (("main", (PLAIN,)), ("host", editions), ("util", (PLAIN, PLAIN, PLAIN)))
    return Graph(words, events, modules, top, most=most)


class Attributes(unittest.TestCase):
    def test_they_have_the_values_that_were_passed(self):
        modules = (("main", (PLAIN,)), ("host", (HOST,)))
        graph = Graph(("red", "blue"), ("tick",), modules, "host", most=7)
        self.assertEqual(graph.words, ("red", "blue"))
        self.assertEqual(graph.events, ("tick",))
        self.assertEqual(graph.modules, modules)
        self.assertEqual(graph.top, "host")
        self.assertEqual(graph.most, 7)

    def test_names_are_in_the_order_of_the_graph(self):
        self.assertEqual(make().names, ("main", "host", "util"))
        self.assertEqual(Graph(("w",), (), (("z", (PLAIN,)), ("a", (PLAIN,))), "a").names, ("z", "a"))

    def test_length(self):
        self.assertEqual(len(make()), 3)
        self.assertEqual(len(Graph(("w",), (), (("m", (PLAIN,)),), "m")), 1)


class Equality(unittest.TestCase):
    def test_equal_values_make_equal_graphs(self):
        self.assertEqual(make(), make())
        self.assertFalse(make() != make())
        self.assertTrue(make(most=5) == make())

    def test_each_of_the_five_values_counts(self):
        graph = make()
        others = [
            make(words=("blue", "red")), make(events=()), make(editions=(HOST, PLAIN)), make(top="host"), make(most=6),
        ]
        for other in others:
            self.assertFalse(graph == other)
            self.assertTrue(graph != other)


class Names(unittest.TestCase):
    def test_names_of_modules_are_in_the_graph(self):
        graph = make()
        for name in ("main", "host", "util"):
            self.assertIs(name in graph, True)
            self.assertIs(name not in graph, False)

    def test_nothing_else_is_in_the_graph(self):
        graph = make()
        for value in any_values() + ["hos", "red", "tick", ("host",), ["host"], "self", b"host"]:
            if value != "main":
                self.assertIs(value in graph, False)

    def test_editions(self):
        graph = make()
        self.assertEqual(graph.editions("main"), (PLAIN,))
        self.assertEqual(graph.editions("host"), (PLAIN, HOST))
        self.assertEqual(graph.editions("util"), (PLAIN, PLAIN, PLAIN))

    def test_values_that_name_no_module(self):
        graph = make()
        for value in any_values() + ["hos", "red", ("host",), ["host"], 1]:
            if value != "main":
                with self.assertRaises(NoModule) as caught:
                    graph.editions(value)
                self.assertEqual(caught.exception.name, value)
                self.assertIs(type(caught.exception.name), type(value))


class AllSources(unittest.TestCase):
    def test_the_last_module_changes_fastest(self):
        self.assertEqual(make().all_sources(), [(0, 0, 0), (0, 0, 1), (0, 0, 2), (0, 1, 0), (0, 1, 1), (0, 1, 2)])
        self.assertEqual(example().all_sources(), [(0, 0, 0), (0, 1, 0)])
        self.assertEqual(Graph(("w",), (), (("m", (PLAIN,)),), "m").all_sources(), [(0,)])

    def test_as_many_as_a_graph_can_have(self):
        modules = tuple([(name, (PLAIN,) * 3) for name in "abcd"])
        found = Graph(("w",), (), modules, "a").all_sources()
        self.assertEqual(len(found), 81)
        self.assertEqual(found, sorted(set(found)))
        self.assertEqual((found[0], found[-1]), ((0, 0, 0, 0), (2, 2, 2, 2)))

    def test_the_kinds_of_the_values(self):
        found = make().all_sources()
        self.assertIs(type(found), list)
        self.assertEqual({type(sources) for sources in found}, {tuple})

    def test_a_returned_list_that_is_changed_has_no_effect(self):
        graph = make()
        found = graph.all_sources()
        before = list(found)
        found.append("changed")
        found[0] = None
        self.assertEqual(graph.all_sources(), before)
        self.assertIsNot(graph.all_sources(), graph.all_sources())
        self.assertEqual(graph, make())


if __name__ == "__main__":
    unittest.main()

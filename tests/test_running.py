"""Running modules and starting programs."""

import copy
import unittest

from swappedhot.errors import InvalidSources
from swappedhot.graphs import Graph
from swappedhot.running import start
from swappedhot.states import is_state
from tests.samples import PLAIN, any_values, edition, example


def graph_of(*modules, top="a", most=8, events=("tick", "tock")):
    """A graph of modules with one edition or several each."""
    return Graph(("red", "blue"), events, modules, top, most=most)


def names(state):
    return [instance[0] for instance in state[1]]


class Starts(unittest.TestCase):
    def test_the_example(self):
        self.assertEqual(start(example(), (0, 0, 0)), (
            (0, 0, 0),
            (("main", 0, None, (), ()), ("host", 0, "red", (), (2,)), ("util", 0, None, (), ())),
            (0, 1, 2),
            ((0, "tick", "listen", "util"),)))

    def test_the_sources_name_the_editions(self):
        state = start(example(), (0, 1, 0))
        self.assertEqual(state[0], (0, 1, 0))
        self.assertEqual(state[1][1], ("host", 1, "blue", (), (2,)))

    def test_a_module_that_does_nothing(self):
        graph = graph_of(("a", (PLAIN,)))
        self.assertEqual(start(graph, (0,)), ((0,), (("a", 0, None, (), ()),), (0,), ()))

    def test_modules_that_are_not_imported_are_not_run(self):
        graph = graph_of(("b", (PLAIN, PLAIN)), ("a", (PLAIN,)))
        self.assertEqual(start(graph, (1, 0)), ((1, 0), (("a", 0, None, (), ()),), (None, 0), ()))

    def test_only_the_edition_of_the_sources_imports(self):
        graph = graph_of(("a", (edition(("b",)), PLAIN)), ("b", (PLAIN,)))
        self.assertEqual(start(graph, (0, 0))[2], (0, 1))
        self.assertEqual(start(graph, (1, 0))[2], (0, None))

    def test_each_state_is_made_of_tuples(self):
        self.check_tuples(start(example(), (0, 0, 0)))

    def check_tuples(self, value):
        if not isinstance(value, (int, str)) and value is not None:
            self.assertIs(type(value), tuple)
            for item in value:
                self.check_tuples(item)

    def test_starting_changes_nothing(self):
        graph = example()
        first = start(graph, (0, 1, 0))
        start(graph, (0, 0, 0))
        self.assertEqual(start(graph, (0, 1, 0)), first)
        self.assertEqual(graph, example())


class Births(unittest.TestCase):
    def test_an_instance_is_born_before_its_imports(self):
        graph = graph_of(("c", (PLAIN,)), ("b", (edition(("c",)),)), ("a", (edition(("b",)),)))
        state = start(graph, (0, 0, 0))
        self.assertEqual(names(state), ["a", "b", "c"])
        self.assertEqual(state[2], (2, 1, 0))

    def test_imports_are_run_in_their_order_and_to_the_bottom(self):
        graph = graph_of(("a", (edition(("d", "b")),)), ("b", (PLAIN,)), ("c", (PLAIN,)), ("d", (edition(("c",)),)))
        state = start(graph, (0, 0, 0, 0))
        self.assertEqual(names(state), ["a", "d", "c", "b"])
        self.assertEqual(state[2], (0, 3, 2, 1))

    def test_a_module_that_several_import_is_run_once(self):
        graph = graph_of(("a", (edition(("b", "c", "d")),)), ("b", (edition(("d",)),)), ("c", (edition(("d",)),)),
                         ("d", (PLAIN,)))
        self.assertEqual(names(start(graph, (0, 0, 0, 0))), ["a", "b", "d", "c"])

    def test_the_body_comes_after_the_imports(self):
        graph = graph_of(("a", (edition(("b",), (("listen", "tick", "b"),)),)),
                         ("b", (edition((), (("listenheld", "tock", "h"),)),)))
        self.assertEqual(start(graph, (0, 0))[3], ((1, "tock", "listenheld", "h"), (0, "tick", "listen", "b")))


class Rings(unittest.TestCase):
    def test_a_ring_of_two(self):
        graph = graph_of(("a", (edition(("b",), (("hold", "h", "b"), ("enter", "b"))),)),
                         ("b", (edition(("a",), (("hold", "h", "a"), ("enter", "a"))),)))
        self.assertEqual(start(graph, (0, 0)), (
            (0, 0), (("a", 0, None, (("h", 1),), (1,)), ("b", 0, None, (("h", 0),), (0,))), (0, 1), ()))

    def test_the_rows_of_a_module_under_way_come_last(self):
        row = (("listen", "tick", "a"),)
        graph = graph_of(("a", (edition(("b",), (("listen", "tick", "b"),)),)),
                         ("b", (edition(("c",), (("listen", "tick", "c"),)),)), ("c", (edition(("a",), row),)))
        state = start(graph, (0, 0, 0))
        self.assertEqual(names(state), ["a", "b", "c"])
        self.assertEqual([listener[0] for listener in state[3]], [2, 1, 0])

    def test_the_top_in_the_middle_of_a_ring(self):
        graph = graph_of(("a", (edition(("c",)),)), ("b", (edition(("a",)),)), ("c", (edition(("b",)),)), top="c")
        state = start(graph, (0, 0, 0))
        self.assertEqual(names(state), ["c", "b", "a"])
        self.assertEqual(state[2], (2, 1, 0))

    def test_all_import_all(self):
        everyone = "abcd"
        graph = graph_of(*[(name, (edition(tuple(everyone.replace(name, ""))),)) for name in everyone], top="c")
        self.assertEqual(names(start(graph, (0, 0, 0, 0))), ["c", "a", "b", "d"])


class Rows(unittest.TestCase):
    def run_rows(self, *rows, imports=("b", "c"), b=PLAIN):
        graph = graph_of(("a", (edition(imports, rows),)), ("b", (b,)), ("c", (PLAIN,)))
        return start(graph, (0, 0, 0))

    def test_hold(self):
        state = self.run_rows(("hold", "x", "c"), ("hold", "b", "b"))
        self.assertEqual(state[1][0], ("a", 0, None, (("x", 2), ("b", 1)), ()))

    def test_a_slot_that_is_held_twice_keeps_its_place(self):
        state = self.run_rows(("hold", "x", "b"), ("hold", "y", "b"), ("hold", "x", "c"))
        self.assertEqual(state[1][0][3], (("x", 2), ("y", 1)))

    def test_listen(self):
        state = self.run_rows(("listen", "tock", "c"), ("listenheld", "tick", "x"), ("listen", "tick", "b"))
        self.assertEqual(state[3], ((0, "tock", "listen", "c"), (0, "tick", "listenheld", "x"),
                                    (0, "tick", "listen", "b")))

    def test_a_listener_that_occurs_twice(self):
        row = ("listen", "tick", "b")
        state = self.run_rows(row, ("listenheld", "tick", "x"), row)
        self.assertEqual(state[3], ((0, "tick", "listen", "b"), (0, "tick", "listenheld", "x"),
                                    (0, "tick", "listen", "b")))

    def test_enter(self):
        state = self.run_rows(("enter", "c"), ("enter", "b"))
        self.assertEqual([instance[4] for instance in state[1]], [(), (0,), (0,)])

    def test_several_entries_of_one_instance(self):
        state = self.run_rows(("enter", "c"), ("enter", "b"), ("enter", "c"),
                              b=edition(("c",), (("enter", "c"), ("enter", "c"))))
        self.assertEqual(names(state), ["a", "b", "c"])
        self.assertEqual([instance[4] for instance in state[1]], [(), (0,), (1, 1, 0, 0)])

    def test_cell(self):
        state = self.run_rows(("cell", "blue"), ("hold", "x", "b"), b=edition((), (("cell", "red"),)))
        self.assertEqual([instance[2] for instance in state[1]], ["blue", "red", None])
        self.assertEqual(state[1][0][3], (("x", 1),))

    def test_accepts_and_cleanup_are_not_done(self):
        whole = edition(("b",), (), (("self",), ("b", (("enter", "b"), ("hold", "x", "b"), ("listen", "tick", "b")))),
                        (("unlisten",), ("leave", "b"), ("carry",)))
        graph = graph_of(("a", (whole,)), ("b", (PLAIN,)))
        self.assertEqual(start(graph, (0, 0)),
                         ((0, 0), (("a", 0, None, (), ()), ("b", 0, None, (), ())), (0, 1), ()))


class Bounds(unittest.TestCase):
    """What fills a bound exactly is started; one more is InvalidGraph, in test_graph_errors."""

    def test_exactly_most(self):
        body = (("enter", "b"), ("enter", "b"), ("listen", "tick", "b"), ("listen", "tick", "b"))
        graph = graph_of(("a", (edition(("b",), body),)), ("b", (PLAIN,)), most=2)
        state = start(graph, (0, 0))
        self.assertEqual((len(state[1]), len(state[3]), state[1][1][4]), (2, 2, (0, 0)))
        self.assertTrue(is_state(graph, state))


class WrongSources(unittest.TestCase):
    def setUp(self):
        self.graph = example()

    def wrong(self, value):
        before = copy.deepcopy(value)
        with self.assertRaises(InvalidSources) as caught:
            start(self.graph, value)
        self.assertEqual(repr(caught.exception.sources), repr(before))
        self.assertEqual(repr(value), repr(before))

    def test_any_value(self):
        for value in any_values():
            self.wrong(value)

    def test_lengths(self):
        for value in ((), (0,), (0, 0), (0, 0, 0, 0)):
            self.wrong(value)

    def test_no_list(self):
        self.wrong([0, 0, 0])

    def test_numbers_of_editions(self):
        for value in ((0, 2, 0), (1, 0, 0), (0, 0, 1), (-1, 0, 0), (0, -1, 0), (0, 0, 10 ** 3999)):
            self.wrong(value)

    def test_items_are_integers(self):
        for item in (True, False, None, "0", "", (0,), [0], {}):
            for place in range(3):
                self.wrong((0,) * place + (item,) + (0,) * (2 - place))


if __name__ == "__main__":
    unittest.main()

"""Running modules where earlier runs have left something behind."""

import unittest

from swappedhot.errors import TooMany
from swappedhot.graphs import Graph
from swappedhot.machine import Machine
from tests.samples import PLAIN, edition


def graph_of(main, host, most=3):
    modules = (("main", (main,)), ("host", (host, PLAIN)), ("util", (PLAIN,)))
    return Graph(("red", "blue"), ("tick",), modules, "main", most=most)


class Again(unittest.TestCase):
    def started(self, main, host, most=3):
        machine = Machine(graph_of(main, host, most), (0, 0, 0))
        machine.run("main")
        return machine

    def again(self, machine, times):
        """Run host so often, as if each of its instances had been put away."""
        for _ in range(times):
            machine.current["host"] = None
            machine.run("host")

    def refused(self, what, call, *arguments):
        with self.assertRaises(TooMany) as caught:
            call(*arguments)
        self.assertEqual(caught.exception.what, what)

    def test_instances_that_nobody_refers_to_are_forgotten(self):
        machine = self.started(edition(("host",)), PLAIN, most=2)
        self.again(machine, 5)
        self.assertEqual(machine.as_state(),
                         ((0, 0, 0), (("main", 0, None, (), ()), ("host", 0, None, (), ())), (0, 1, None), ()))

    def test_instances_that_are_held_or_entered_or_listen_stay(self):
        machine = self.started(edition(("host",), (("hold", "h", "host"),)), PLAIN, most=2)
        self.refused("instances", self.again, machine, 1)
        machine = self.started(edition(("host",)), edition((), (("listenheld", "tick", "h"),)), most=3)
        self.again(machine, 1)
        self.assertEqual(machine.as_state()[3], ((1, "tick", "listenheld", "h"), (2, "tick", "listenheld", "h")))
        self.refused("instances", self.again, machine, 1)
        machine = self.started(edition(("host",)), edition(("main",), (("enter", "main"),)), most=3)
        self.again(machine, 1)
        self.assertEqual(machine.as_state()[1][0][4], (1, 2))
        self.refused("instances", self.again, machine, 1)

    def test_the_others_are_renumbered(self):
        machine = self.started(edition(("host",), (("hold", "h", "host"),)), PLAIN)
        self.again(machine, 1)
        machine.do_rows(0, (("hold", "g", "host"), ("hold", "h", "host"), ("listen", "tick", "host")))
        self.assertEqual(machine.as_state(), (
            (0, 0, 0), (("main", 0, None, (("h", 1), ("g", 1)), ()), ("host", 0, None, (), ())), (0, 1, None),
            ((0, "tick", "listen", "host"),)))

    def test_instances_that_refer_only_to_each_other_are_forgotten(self):
        machine = self.started(edition(("host",), (("hold", "h", "host"),)),
                               edition(("main",), (("hold", "h", "main"), ("enter", "main"))))
        machine.current["main"] = None
        machine.current["host"] = None
        machine.run("util")
        self.assertEqual(machine.as_state(), ((0, 0, 0), (("util", 0, None, (), ()),), (None, None, 0), ()))

    def test_a_word_that_is_carried(self):
        machine = self.started(edition(("host",)), edition((), (("cell", "red"),)))
        machine.carried["host"] = "blue"
        self.again(machine, 1)
        self.assertEqual(machine.as_state()[1][1], ("host", 0, "blue", (), ()))

    def test_a_word_that_is_carried_for_another_module(self):
        machine = self.started(edition(("host",)), edition((), (("cell", "red"),)))
        machine.carried["util"] = "blue"
        machine.carried["main"] = "blue"
        self.again(machine, 1)
        self.assertEqual(machine.as_state()[1][1], ("host", 0, "red", (), ()))

    def test_a_word_that_is_carried_to_a_module_without_a_cell(self):
        machine = self.started(edition(("host",)), PLAIN)
        machine.carried["host"] = "blue"
        self.again(machine, 1)
        self.assertEqual(machine.as_state()[1][1], ("host", 0, None, (), ()))

    def test_rows_for_a_module_without_a_current_instance(self):
        machine = self.started(edition(("host",)), PLAIN)
        machine.do_rows(0, (("hold", "h", "util"), ("enter", "util"), ("listen", "tick", "util")))
        self.assertEqual(machine.as_state(), (
            (0, 0, 0), (("main", 0, None, (("h", None),), ()), ("host", 0, None, (), ())), (0, 1, None),
            ((0, "tick", "listen", "util"),)))

    def test_the_words_of_refusals(self):
        self.refused("instances", self.bare, edition(("host",)), edition(("util",)))
        self.refused("listeners", self.bare, edition((), (("listenheld", "tick", "h"),) * 3), PLAIN)
        self.refused("entries", self.bare, edition(("host",), (("enter", "host"),) * 3), PLAIN)

    def bare(self, main, host):
        graph = graph_of(main, host)
        graph.most = 2
        Machine(graph, (0, 0, 0)).run("main")

    def test_births_are_bounded_before_rows(self):
        full = edition(("host",), (("enter", "host"),) * 3)
        self.refused("instances", self.bare, full, edition(("util",)))
        self.refused("listeners", self.bare, full, edition((), (("listenheld", "tick", "h"),) * 3))


if __name__ == "__main__":
    unittest.main()

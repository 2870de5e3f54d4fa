"""What is a deed, and the deeds other than edits."""

import copy
import unittest

from swappedhot.errors import BadDeed
from swappedhot.graphs import Graph
from swappedhot.judging import judge
from swappedhot.rules import all_rules
from swappedhot.running import start
from swappedhot.states import is_state
from swappedhot.swapping import calls_of, is_deed, step
from tests import drawn
from tests.samples import BLUE, PLAIN, RED, after, any_values, edition, example, leaving, program, zeros

KEPT = ("near", "again", "kept")
LOST = ("near", "again", "lost")
NOBODY = ("", -1, "")


class Deeds(unittest.TestCase):
    def setUp(self):
        self.graph = example()

    def bad(self, *values):
        for value in values:
            before = copy.deepcopy(value)
            self.assertIs(is_deed(self.graph, value), False, value)
            for call in (step, judge):
                with self.assertRaises(BadDeed) as caught:
                    call(self.graph, KEPT, zeros(self.graph), value)
                self.assertEqual(repr(caught.exception.deed), repr(before))
            self.assertEqual(repr(value), repr(before))

    def test_each_deed_of_the_graph(self):
        deeds = [("edit", "main", 0), ("edit", "host", 0), ("edit", "host", 1), ("edit", "util", 0), ("fire", "tick"),
                 ("set", "main", "red"), ("set", "main", "blue"), ("set", "host", "red"), ("set", "host", "blue"),
                 ("set", "util", "red"), ("set", "util", "blue"), ("reload",)]
        self.assertEqual(drawn.deeds_of(self.graph), deeds)
        for deed in deeds:
            self.assertIs(is_deed(self.graph, deed), True, deed)
            self.assertTrue(step(self.graph, KEPT, zeros(self.graph), deed))

    def test_any_value(self):
        self.bad(*any_values())

    def test_first_words(self):
        for first in any_values() + ["edits", "Edit", ("edit",), ["edit"], "hold"]:
            self.bad((first,), (first, "tick"), (first, "host", 1), (first, "host", "red"))

    def test_lengths(self):
        self.bad(("edit",), ("edit", "host"), ("edit", "host", 1, 1), ("edit", "host", 1, None), ("fire",),
                 ("fire", "tick", "tick"), ("fire", "host", "red"), ("fire", "host", 1), ("set",), ("set", "host"),
                 ("set", "host", "red", "red"), ("reload", "host"), ("reload", 0), ("reload", "host", 1),
                 ("reload", "host", "red"), ("reload", None), ())

    def test_lists_are_no_deeds(self):
        for deed in drawn.deeds_of(self.graph):
            self.bad(list(deed), (deed,), [deed], {deed: 0})
        self.bad("reload", ("fire", ["tick"]), ("edit", ["host"], 1), ("set", "host", ["red"]))

    def test_modules(self):
        for name in [value for value in any_values() if value != "main"] + ["hosts", "tick", "red", "self", ("host",)]:
            self.bad(("edit", name, 0), ("set", name, "red"))

    def test_editions_are_integers(self):
        self.bad(("edit", "host", True), ("edit", "host", False), ("edit", "main", False))
        for value in any_values():
            if not (isinstance(value, int) and not isinstance(value, bool) and value in (0, 1)):
                self.bad(("edit", "host", value))

    def test_editions_of_this_very_module(self):
        self.bad(("edit", "host", 2), ("edit", "host", -1), ("edit", "main", 1), ("edit", "util", 1),
                 ("edit", "host", "1"), ("edit", "host", (1,)), ("edit", "host", 10 ** 3999))

    def test_events(self):
        for value in any_values() + ["tock", "host", "red", "tic", "ticks", ("tick",)]:
            self.bad(("fire", value))

    def test_words(self):
        for value in any_values() + ["green", "host", "tick", "re", ("red",), 1]:
            self.bad(("set", "host", value))

    def test_names_that_are_words_of_deeds(self):
        modules = (("edit", (PLAIN, RED)), ("reload", (RED,)), ("fire", (PLAIN,)))
        graph = Graph(("set", "red"), ("fire", "edit"), modules, "edit")
        for deed in (("edit", "edit", 1), ("set", "reload", "set"), ("fire", "fire"), ("fire", "edit"), ("reload",)):
            self.assertIs(is_deed(graph, deed), True, deed)
        for deed in (("edit", "set", 0), ("edit", "edit"), ("reload", "reload"), ("set", "set", "set"), ("edit",),
                     ("fire", "reload"), ("reload", "edit", 1), ("fire", "edit", 1)):
            self.assertIs(is_deed(graph, deed), False, deed)

    def test_a_graph_without_events(self):
        graph = Graph(("red",), (), (("main", (PLAIN,)),), "main")
        self.assertIs(is_deed(graph, ("fire", "tick")), False)
        self.assertIs(is_deed(graph, ("set", "main", "red")), True)
        self.assertIs(is_deed(graph, ("set", "main", "blue")), False)

    def test_the_error_keeps_no_list(self):
        value = ["reload"]
        with self.assertRaises(BadDeed) as caught:
            step(self.graph, KEPT, zeros(self.graph), value)
        value.append("host")
        self.assertEqual(caught.exception.deed, ["reload"])


class Fires(unittest.TestCase):
    def calls(self, graph, state, event, *wanted):
        self.assertTrue(is_state(graph, state))
        self.assertEqual(calls_of(graph, state, event), wanted)
        for rule in all_rules():
            made = step(graph, rule, state, ("fire", event))
            self.assertEqual((made.state, made.calls, made.trace), (state, wanted, ()))

    def test_a_call(self):
        self.calls(example(), zeros(example()), "tick", ("main", 0, "util", 0, ""))

    def test_no_listener(self):
        graph = program(main=(PLAIN,))
        self.calls(graph, zeros(graph), "tick")
        self.calls(graph, ((0,), (), (None,), ()), "tick")

    def test_words_and_editions(self):
        graph = program(main=(PLAIN, edition(("a",), (("listen", "tick", "a"),))), a=(PLAIN, RED))
        self.calls(graph, start(graph, (1, 0)), "tick", ("main", 1, "a", 0, ""))
        self.calls(graph, start(graph, (1, 1)), "tick", ("main", 1, "a", 1, "red"))
        state = step(graph, KEPT, start(graph, (1, 1)), ("set", "a", "blue")).state
        self.calls(graph, state, "tick", ("main", 1, "a", 1, "blue"))

    def test_only_the_listeners_of_the_event_in_their_order(self):
        body = (("listen", "tick", "b"), ("listen", "tock", "a"), ("listen", "tick", "a"), ("listen", "tick", "b"))
        graph = program(main=(edition(("a", "b"), body),), a=(PLAIN,),
                        b=(edition(("main",), (("cell", "red"), ("listen", "tick", "main"))),))
        self.calls(graph, zeros(graph), "tick", ("b", 0, "main", 0, ""), ("main", 0, "b", 0, "red"),
                   ("main", 0, "a", 0, ""), ("main", 0, "b", 0, "red"))
        self.calls(graph, zeros(graph), "tock", ("main", 0, "a", 0, ""))

    def test_several_equal_listeners(self):
        graph = program(main=(edition(("a",), (("listen", "tick", "a"),) * 3),), a=(PLAIN,))
        self.calls(graph, zeros(graph), "tick", *[("main", 0, "a", 0, "")] * 3)

    def test_a_module_without_a_current_instance(self):
        graph = program(main=(edition(("a",), (("listen", "tick", "a"),)),), a=(PLAIN,))
        state = ((0, 0), (("main", 0, None, (), ()),), (0, None), ((0, "tick", "listen", "a"),))
        self.calls(graph, state, "tick", ("main", 0) + NOBODY)

    def test_an_old_instance_is_not_called_by_its_module(self):
        graph = program(main=(edition(("a",), (("listen", "tick", "a"), ("hold", "h", "a"))),), a=(RED,))
        state = ((0, 0), (("main", 0, None, (("h", 1),), ()), ("a", 0, "red", (), ())), (0, None),
                 ((0, "tick", "listen", "a"),))
        self.calls(graph, state, "tick", ("main", 0) + NOBODY)

    def test_the_instance_that_is_then_the_current_one(self):
        graph = program(main=(edition(("a",), (("listen", "tick", "a"),), (("a", ()),)),), a=(RED, BLUE))
        self.calls(graph, after(graph, LOST, ("edit", "a", 1)), "tick", ("main", 0, "a", 1, "blue"))

    def test_slots(self):
        body = (("hold", "h", "a"), ("listenheld", "tick", "h"))
        graph = program(main=(edition(("a",), body, (("a", ()),)),), a=(RED, BLUE))
        self.calls(graph, zeros(graph), "tick", ("main", 0, "a", 0, "red"))
        self.calls(graph, after(graph, LOST, ("edit", "a", 1)), "tick", ("main", 0, "a", 0, "red"))

    def test_a_slot_that_holds_again(self):
        body = (("listenheld", "tick", "h"), ("hold", "h", "a"))
        graph = program(main=(edition(("a",), body, (("a", (("hold", "h", "a"),)),)),), a=(RED, BLUE))
        self.calls(graph, after(graph, LOST, ("edit", "a", 1)), "tick", ("main", 0, "a", 1, "blue"))

    def test_a_slot_that_was_never_held(self):
        body = (("hold", "h", "a"), ("listenheld", "tick", "k"))
        graph = program(main=(edition(("a",), body),), a=(RED,))
        self.calls(graph, zeros(graph), "tick", ("main", 0) + NOBODY)

    def test_a_slot_that_holds_none(self):
        graph = program(main=(edition(("a",), (("listenheld", "tick", "h"), ("hold", "h", "a"))),), a=(RED,))
        state = ((0, 0), (("main", 0, None, (("h", None), ("k", 0)), ()),), (0, None),
                 ((0, "tick", "listenheld", "h"),))
        self.calls(graph, state, "tick", ("main", 0) + NOBODY)

    def test_the_first_instance_is_called_too(self):
        graph = program(main=(edition(("a",), (("hold", "h", "a"), ("cell", "red"))),),
                        a=(edition(("main",), (("hold", "h", "main"), ("listenheld", "tick", "h"))),))
        self.calls(graph, zeros(graph), "tick", ("a", 0, "main", 0, "red"))

    def test_a_slot_and_a_module_of_one_name(self):
        body = (("hold", "b", "a"), ("listenheld", "tick", "b"), ("listen", "tick", "b"))
        graph = program(main=(edition(("a", "b"), body),), a=(RED,), b=(BLUE,))
        self.calls(graph, zeros(graph), "tick", ("main", 0, "a", 0, "red"), ("main", 0, "b", 0, "blue"))

    def test_an_owner_that_is_not_current(self):
        host = edition(("b",), (("listen", "tick", "b"), ("hold", "h", "b"), ("listenheld", "tick", "h")))
        graph = program(main=(edition(("a", "b"), (), (("a", ()), ("b", ()))),), a=(host, edition(("b",))),
                        b=(RED, BLUE))
        state = after(graph, LOST, ("edit", "a", 1))
        self.calls(graph, state, "tick", ("a", 0, "b", 0, "red"), ("a", 0, "b", 0, "red"))
        state = step(graph, LOST, state, ("edit", "b", 1)).state
        self.calls(graph, state, "tick", ("a", 0, "b", 1, "blue"), ("a", 0, "b", 0, "red"))

    def test_an_owner_of_a_module_without_a_current_instance(self):
        graph = program(main=(PLAIN,), a=(edition(("main",), (("listen", "tick", "main"),)),))
        state = ((0, 0), (("a", 0, None, (), ()), ("main", 0, None, (), ())), (1, None),
                 ((0, "tick", "listen", "main"), (0, "tick", "listen", "a"), (0, "tick", "listenheld", "main")))
        self.calls(graph, state, "tick", ("a", 0, "main", 0, ""), ("a", 0) + NOBODY, ("a", 0) + NOBODY)

    def test_the_slot_of_the_very_owner(self):
        graph = program(main=(PLAIN,), a=(RED, BLUE))
        state = ((0, 0), (("main", 0, None, (("h", 2),), ()), ("main", 0, None, (("h", 3),), ()),
                          ("a", 0, "red", (), ()), ("a", 1, "red", (), ())), (1, 3),
                 ((0, "tick", "listenheld", "h"), (1, "tick", "listenheld", "h"), (2, "tick", "listenheld", "h")))
        self.calls(graph, state, "tick", ("main", 0, "a", 0, "red"), ("main", 0, "a", 1, "red"), ("a", 0) + NOBODY)


class Sets(unittest.TestCase):
    def sets(self, graph, state, deed, wanted):
        self.assertTrue(is_state(graph, state))
        for rule in all_rules():
            made = step(graph, rule, state, deed)
            self.assertEqual((made.state, made.calls, made.trace), (wanted, (), ()))

    def test_the_cell_gets_the_word(self):
        before = zeros(example())
        main, host, util = before[1]
        wanted = (before[0], (main, ("host", 0, "blue", (), (2,)), util)) + before[2:]
        self.sets(example(), before, ("set", "host", "blue"), wanted)
        self.sets(example(), wanted, ("set", "host", "red"), before)
        self.sets(example(), wanted, ("set", "host", "blue"), wanted)

    def test_no_cell(self):
        self.sets(example(), zeros(example()), ("set", "main", "red"), zeros(example()))
        self.sets(example(), zeros(example()), ("set", "util", "blue"), zeros(example()))

    def test_no_current_instance(self):
        graph = program(main=(edition(("a",)),), a=(RED,))
        state = ((0, 0), (("main", 0, None, (("h", 1),), ()), ("a", 0, "red", (), ())), (0, None), ())
        self.sets(graph, state, ("set", "a", "blue"), state)

    def test_only_the_current_instance(self):
        graph = program(main=(edition(("a",)),), a=(RED,))
        old, new = ("a", 0, "red", (), ()), ("a", 0, "red", (("h", 0),), (1,))
        listeners = ((0, "tick", "listen", "a"), (1, "tock", "listenheld", "h"))
        self.sets(graph, ((0, 0), (old, new, old), (None, 1), listeners + ((2, "tick", "listen", "a"),)),
                  ("set", "a", "blue"),
                  ((0, 0), (old, ("a", 0, "blue", (("h", 0),), (1,)), old), (None, 1),
                   listeners + ((2, "tick", "listen", "a"),)))

    def test_the_edition_of_the_current_instance_decides(self):
        graph = program(main=(edition(("a",)),), a=(RED, PLAIN))
        with_cell = ((0, 1), (("main", 0, None, (), ()), ("a", 0, "red", (), ())), (0, 1), ())
        wanted = ((0, 1), (("main", 0, None, (), ()), ("a", 0, "blue", (), ())), (0, 1), ())
        self.sets(graph, with_cell, ("set", "a", "blue"), wanted)
        without = ((0, 0), (("main", 0, None, (), ()), ("a", 1, None, (), ())), (0, 1), ())
        self.sets(graph, without, ("set", "a", "blue"), without)


class Reloads(unittest.TestCase):
    def test_the_start_of_the_sources(self):
        graph = leaving()
        for rule in all_rules():
            state = after(graph, KEPT, ("edit", "host", 1))
            made = step(graph, rule, state, ("reload",))
            self.assertEqual(made.state, start(graph, (0, 0, 1)))
            self.assertEqual(made.calls, ())
            self.assertEqual(made.trace, (("reload",), ("run", "main"), ("run", "util"), ("run", "host")))

    def test_nothing_is_carried(self):
        graph = program(main=(edition(("a",)),), a=(edition((), (("cell", "red"),), (), (("carry",),)),))
        state = after(graph, KEPT, ("set", "a", "blue"))
        self.assertEqual(state[1][1][2], "blue")
        for rule in all_rules():
            self.assertEqual(step(graph, rule, state, ("reload",)).state, zeros(graph))

    def test_listeners_and_entries_and_slots_are_forgotten(self):
        graph = example()
        main = ("main", 0, None, (("h", 2), ("k", None)), (0, 1, 2))
        instances = (main, ("host", 1, "red", (), ()), ("util", 0, None, (), ()))
        listeners = ((0, "tick", "listen", "host"), (2, "tick", "listenheld", "h"))
        for current in ((0, 1, 2), (0, None, None)):
            state = ((0, 0, 0), instances, current, listeners)
            self.assertTrue(is_state(graph, state))
            self.assertEqual(step(graph, KEPT, state, ("reload",)).state, zeros(graph))

    def test_a_program_that_is_fresh_is_reloaded_as_well(self):
        made = step(example(), KEPT, zeros(example()), ("reload",))
        self.assertEqual(made.state, zeros(example()))
        self.assertEqual(made.trace, (("reload",), ("run", "main"), ("run", "host"), ("run", "util")))

    def test_from_states_without_a_top(self):
        graph = example()
        self.assertEqual(step(graph, KEPT, ((0, 1, 0), (), (None, None, None), ()), ("reload",)).state,
                         start(graph, (0, 1, 0)))


if __name__ == "__main__":
    unittest.main()

"""Edits: the first two steps, what climbs past the top, and the examples, under each of the rules."""

import unittest

from swappedhot.rules import all_rules
from swappedhot.running import start
from swappedhot.swapping import step
from tests.samples import BLUE, PLAIN, RED, SELF, Edits, accepting, after, edition, example, leaving, program, zeros

AGAIN = ("near", "again", "lost")
STAY = ("near", "stay", "lost")


class Examples(Edits):
    def test_an_entry_is_lost(self):
        wanted = ((0, 1, 0), (("main", 0, None, (), ()), ("util", 0, None, (), ()), ("host", 1, "blue", (), ())),
                  (0, 2, 1), ((0, "tick", "listen", "util"),))
        trace = (("away", "host"), ("run", "host"), ("accept", "main", "host"), ("accept", "util", "host"))
        self.edits(example(), zeros(example()), ("edit", "host", 1), wanted, trace)

    def test_near_and_far(self):
        main = ("main", 0, None, (("h", 2),), ())
        olds = (("util", 0, None, (), ()), ("host", 0, None, (), (1,)))
        near = ((0, 0, 1), (main,) + olds + (("host", 1, None, (), (4,)), ("util", 0, None, (), ())), (0, 4, 3), ())
        far = ((0, 0, 1), (("main", 0, None, (("h", 1),), ()), ("host", 0, None, (), ()),
                           ("host", 1, None, (), (3,)), ("util", 0, None, (), ())), (0, 3, 2), ())
        end = (("run", "host"), ("accept", "main", "host"), ("run", "util"), ("accept", "main", "util"))
        self.edits(leaving(), zeros(leaving()), ("edit", "host", 1), near,
                   (("away", "host"), ("away", "util")) + end, "near")
        self.edits(leaving(), zeros(leaving()), ("edit", "host", 1), far,
                   (("away", "util"), ("away", "host")) + end, "far")


class FirstStep(Edits):
    def test_an_edit_to_the_present_source(self):
        graph = leaving()
        for deed in (("edit", "main", 0), ("edit", "util", 0), ("edit", "host", 0)):
            self.edits(graph, zeros(graph), deed, zeros(graph), ())
        state = after(graph, AGAIN, ("edit", "host", 1))
        self.edits(graph, state, ("edit", "host", 1), state, ())

    def test_an_edit_to_the_present_source_of_a_module_that_is_behind(self):
        graph = program(main=(edition(("a",), accepts=accepting("a")),), a=(RED, BLUE))
        state = ((0, 1), (("main", 0, None, (), ()), ("a", 0, "red", (), ())), (0, 1), ())
        self.edits(graph, state, ("edit", "a", 1), state, ())

    def test_equal_editions_are_different_sources(self):
        graph = program(main=(edition(("a",), (("cell", "red"),), accepting("a")),), a=(RED, RED))
        wanted = ((0, 1), (("main", 0, "red", (), ()), ("a", 1, "red", (), ())), (0, 1), ())
        trace = (("away", "a"), ("run", "a"), ("accept", "main", "a"))
        self.edits(graph, zeros(graph), ("edit", "a", 1), wanted, trace)

    def test_a_module_without_a_current_instance(self):
        graph = program(main=(edition(accepts=SELF), edition(("a",), accepts=SELF)), a=(RED, PLAIN, BLUE))
        state = zeros(graph)
        wanted = ((0, 2), (("main", 0, None, (), ()),), (0, None), ())
        self.edits(graph, state, ("edit", "a", 2), wanted, ())
        later = ((1, 2), (("main", 1, None, (), ()), ("a", 2, "blue", (), ())), (0, 1), ())
        self.edits(graph, wanted, ("edit", "main", 1), later, (("away", "main"), ("run", "main"), ("run", "a")))

    def test_a_module_of_which_only_old_instances_live(self):
        graph = program(main=(edition(("a",), (("hold", "h", "a"),)),), a=(RED, BLUE))
        instances = (("main", 0, None, (("h", 1),), ()), ("a", 0, "red", (), ()))
        self.edits(graph, ((0, 0), instances, (0, None), ()), ("edit", "a", 1),
                   ((0, 1), instances, (0, None), ()), ())

    def test_a_state_without_instances(self):
        graph = example()
        self.edits(graph, ((0, 0, 0), (), (None, None, None), ()), ("edit", "host", 1),
                   ((0, 1, 0), (), (None, None, None), ()), ())

    def test_only_the_source_of_the_module_changes(self):
        graph = program(main=(PLAIN, PLAIN), a=(PLAIN, PLAIN), b=(PLAIN, PLAIN))
        state = start(graph, (1, 0, 1))
        self.assertEqual(step(graph, AGAIN, state, ("edit", "a", 1)).state[0], (1, 1, 1))
        self.assertEqual(step(graph, AGAIN, state, ("edit", "b", 0)).state[0], (1, 0, 0))
        self.assertEqual(step(graph, AGAIN, state, ("edit", "main", 0)).state[0], (0, 0, 1))


class Past(Edits):
    """Edits that climb past the top."""

    def setUp(self):
        held = edition(("a",), (("hold", "h", "a"), ("cell", "red")), (), (("carry",),))
        a = edition((), (("cell", "red"),), (), (("carry",),))
        self.graph = program(main=(held,), a=(a, a))
        self.state = after(self.graph, STAY, ("set", "a", "blue"), ("set", "main", "blue"))

    def test_reload(self):
        wanted = ((0, 1), (("main", 0, "red", (("h", 1),), ()), ("a", 1, "red", (), ())), (0, 1), ())
        trace = (("reload",), ("run", "main"), ("run", "a"))
        self.edits(self.graph, self.state, ("edit", "a", 1), wanted, trace, "reload")
        self.assertEqual(wanted, start(self.graph, (0, 1)))

    def test_stay(self):
        self.edits(self.graph, self.state, ("edit", "a", 1), ((0, 1),) + self.state[1:], (), "stay")

    def test_again(self):
        trace = (("away", "a"), ("away", "main"), ("run", "main"), ("run", "a"))
        for word, data in (("blue", "kept"), ("red", "lost")):
            wanted = ((0, 1), (("main", 0, word, (("h", 1),), ()), ("a", 1, word, (), ())), (0, 1), ())
            self.edits(self.graph, self.state, ("edit", "a", 1), wanted, trace, "near", "again", data)
            self.edits(self.graph, self.state, ("edit", "a", 1), wanted, (trace[1], trace[0]) + trace[2:],
                       "far", "again", data)

    def test_stay_although_others_would_be_run(self):
        graph = program(main=(edition(("a", "b", "c")),), a=(edition(("c",), accepts=SELF),),
                        b=(edition(("c",), (("listen", "tick", "c"),), (("c", (("listen", "tick", "c"),)),)),),
                        c=(PLAIN, PLAIN))
        state = zeros(graph)
        self.edits(graph, state, ("edit", "c", 1), ((0, 0, 0, 1),) + state[1:], (), "stay")

    def test_behind_modules_are_run_with_the_new_sources(self):
        state = step(self.graph, STAY, self.state, ("edit", "a", 1)).state
        self.assertEqual([each[1] for each in state[1]], [0, 0])
        back = step(self.graph, STAY, state, ("edit", "a", 0)).state
        self.assertEqual(back, self.state)
        graph = program(main=(edition(("a", "b")),), a=(PLAIN, PLAIN), b=(edition(("a",)), edition(("a",))))
        state = after(graph, STAY, ("edit", "b", 1))
        self.assertEqual(state, ((0, 0, 1), (("main", 0, None, (), ()), ("a", 0, None, (), ()),
                                             ("b", 0, None, (), ())), (0, 1, 2), ()))
        self.edits(graph, state, ("edit", "a", 1), start(graph, (0, 1, 1)),
                   (("away", "a"), ("away", "main"), ("away", "b"), ("run", "main"), ("run", "a"), ("run", "b")),
                   "near", "again")

    def test_past_counts_as_own_in_the_order_of_outdated(self):
        own = edition(("a",), accepts=SELF)
        graph = program(main=(edition(("a", "b")),), a=(PLAIN, PLAIN), b=(own,))
        aways = (("away", "a"), ("away", "main"), ("away", "b"))
        runs = (("run", "main"), ("run", "a"), ("run", "b"))
        self.edits(graph, zeros(graph), ("edit", "a", 1), start(graph, (0, 1, 0)), aways + runs,
                   "near", "again")
        graph = program(b=(own,), main=(edition(("a", "b")),), a=(PLAIN, PLAIN))
        wanted = ((0, 0, 1), (("b", 0, None, (), ()), ("a", 1, None, (), ()), ("main", 0, None, (), ())),
                  (0, 2, 1), ())
        self.edits(graph, zeros(graph), ("edit", "a", 1), wanted,
                   (("away", "a"), ("away", "b"), ("away", "main"), ("run", "b"), ("run", "a"), ("run", "main")),
                   "near", "again")

    def test_a_module_without_importers_is_run_again(self):
        graph = program(main=(edition(("a",), accepts=SELF), edition(accepts=SELF)), a=(PLAIN, PLAIN))
        state = after(graph, AGAIN, ("edit", "main", 1))
        self.assertEqual(state[2], (1, 0))
        wanted = ((1, 1), (("main", 1, None, (), ()), ("a", 1, None, (), ())), (0, 1), ())
        self.edits(graph, state, ("edit", "a", 1), wanted, (("away", "a"), ("run", "a")), "again")
        self.edits(graph, state, ("edit", "a", 1), ((1, 1),) + state[1:], (), "stay")
        self.edits(graph, state, ("edit", "a", 1), ((1, 1), (("main", 1, None, (), ()),), (0, None), ()),
                   (("reload",), ("run", "main")), "reload")

    def test_the_word_for_past_matters_only_if_something_is_past(self):
        wanted = step(example(), AGAIN, zeros(example()), ("edit", "host", 1)).state
        for rule in all_rules():
            self.assertEqual(step(example(), rule, zeros(example()), ("edit", "host", 1)).state, wanted)


if __name__ == "__main__":
    unittest.main()

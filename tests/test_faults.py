"""The faults: each kind with a state or a deed that has it, and with one that just does not."""

import unittest

from swappedhot.graphs import Graph
from swappedhot.judging import KINDS, judge, state_faults
from swappedhot.rules import all_rules
from swappedhot.running import start
from swappedhot.states import is_state
from swappedhot.swapping import step
from tests.samples import BLUE, PLAIN, RED, SELF, accepting, after, edition, example, leaving, program, rules, zeros

NEAR = ("near", "again", "kept")
LOST = ("near", "again", "lost")
CARRY = (("carry",),)

MAIN = ("main", 0, None, (("h", 1),), ())
HOST = ("host", 0, "red", (), (0,))
UTIL = ("util", 0, None, (), ())
TICK = (0, "tick", "listen", "host")


def graph_of():
    """Main holds host, listens to tick for it and enters it; nobody imports spare."""
    body = (("hold", "h", "host"), ("listen", "tick", "host"), ("enter", "host"))
    return program(main=(edition(("host", "util"), body),), host=(RED, BLUE), util=(PLAIN, PLAIN), spare=(PLAIN,))


def state(*instances, current=(0, 1, 2, None), listeners=(TICK,), sources=(0, 0, 0, 0)):
    return (sources, instances, current, listeners)


class Faults(unittest.TestCase):
    def setUp(self):
        self.graph = graph_of()

    def faults(self, value, *wanted):
        self.assertTrue(is_state(self.graph, value))
        self.assertEqual(state_faults(self.graph, value), list(wanted))


class NoFaults(Faults):
    def test_starts(self):
        self.assertEqual(state(MAIN, HOST, UTIL), zeros(self.graph))
        for graph in (self.graph, example(), leaving()):
            for sources in graph.all_sources():
                self.assertEqual(state_faults(graph, start(graph, sources)), [])

    def test_the_order_of_births_makes_no_difference(self):
        self.faults(state(UTIL, HOST[:4] + ((2,),), MAIN, current=(2, 1, 0, None), listeners=((2,) + TICK[1:],)))

    def test_words_make_no_difference(self):
        self.faults(state(MAIN, ("host", 0, "blue", (), (0,)), UTIL))


class Behind(Faults):
    def test_another_edition_than_the_sources_say(self):
        self.faults(state(MAIN, HOST, ("util", 1, None, (), ())), ("behind", "util"))
        self.faults(state(MAIN, HOST, UTIL, sources=(0, 0, 1, 0)), ("behind", "util"))

    def test_the_edition_of_the_sources(self):
        self.faults(state(MAIN, HOST, ("util", 1, None, (), ()), sources=(0, 0, 1, 0)))

    def test_an_instance_that_is_not_current(self):
        held = MAIN[:3] + ((("h", 1), ("k", 3)), ())
        self.faults(state(held, HOST, UTIL, ("util", 1, None, (), ())), ("elder", "util"))

    def test_no_current_instance(self):
        self.faults(state(MAIN, HOST, current=(0, 1, None, None), sources=(0, 0, 1, 0)), ("lacking", "util"))

    def test_behind_an_edit_that_stays(self):
        for rule in rules("stay"):
            self.assertEqual(judge(self.graph, rule, zeros(self.graph), ("edit", "util", 1)), [("behind", "util")])
        for rule in rules("again"):
            self.assertEqual(judge(self.graph, rule, zeros(self.graph), ("edit", "util", 1)),
                             [("elder", "main"), ("doubled", "main"), ("astray", "")])


class Elder(Faults):
    def test_an_instance_that_is_held(self):
        self.faults(state(MAIN[:3] + ((("h", 1), ("k", 3)), ()), HOST, UTIL, ("util", 0, None, (), ())),
                    ("elder", "util"))

    def test_an_instance_that_has_entered(self):
        self.faults(state(MAIN, HOST, UTIL[:4] + ((3,),), ("spare", 0, None, (), ())),
                    ("elder", "spare"), ("doubled", "spare"))

    def test_an_instance_that_listens(self):
        self.faults(state(MAIN, HOST, UTIL, UTIL, listeners=(TICK, (3, "tock", "listenheld", "h"))),
                    ("elder", "util"), ("doubled", "util"), ("astray", ""))

    def test_an_instance_of_a_module_without_a_current_one(self):
        self.faults(state(MAIN[:3] + ((("h", 1), ("k", 2)), ()), HOST, UTIL, current=(0, 1, None, None)),
                    ("elder", "util"), ("lacking", "util"))

    def test_the_current_instance_is_none_also_if_it_is_held(self):
        self.faults(state(MAIN[:3] + ((("h", 1), ("k", 2), ("l", 0)), ()), HOST, UTIL))


class Doubled(Faults):
    def test_more_listeners(self):
        self.faults(state(MAIN, HOST, UTIL, listeners=(TICK, TICK)), ("doubled", "main"), ("astray", ""))

    def test_other_listeners_are_more_as_well(self):
        for event, kind, what in (("tock", "listen", "host"), ("tick", "listen", "util"),
                                  ("tick", "listenheld", "h"), ("tick", "listenheld", "host")):
            self.faults(state(MAIN, HOST, UTIL, listeners=(TICK, (0, event, kind, what))),
                        ("doubled", "main"), ("astray", ""))

    def test_another_event_kind_or_name_is_another_count(self):
        body = (("hold", "h", "host"), ("listen", "tick", "host"), ("listenheld", "tock", "h"))
        self.graph = program(main=(edition(("host",), body),), host=(RED,))
        instances = (MAIN, HOST[:4] + ((),))
        good = (0, "tock", "listenheld", "h")
        self.faults(((0, 0), instances, (0, 1), (TICK, good)))
        self.faults(((0, 0), instances, (0, 1), (good, TICK)))
        for listener in ((0, "tick", "listenheld", "h"), (0, "tock", "listen", "host"), (0, "tock", "listenheld", "k"),
                         (0, "tock", "listenheld", "host"), (0, "tick", "listen", "host")):
            found = state_faults(self.graph, ((0, 0), instances, (0, 1), (TICK, listener)))
            self.assertEqual(found[:2], [("doubled", "main"), ("lacking", "main")], listener)

    def test_listeners_of_instances_that_are_not_current(self):
        old = ("main", 0, None, (), ())
        self.faults(state(MAIN, HOST, UTIL, old, listeners=((3,) + TICK[1:], TICK)),
                    ("elder", "main"), ("doubled", "main"), ("astray", ""))
        # As many as in the fresh state, whoever of them listens.
        self.faults(state(MAIN, HOST, UTIL, old, listeners=((3,) + TICK[1:],)), ("elder", "main"))

    def test_listeners_of_different_modules_are_not_added_up(self):
        self.faults(state(MAIN, HOST, UTIL, listeners=(TICK, (2,) + TICK[1:])), ("doubled", "util"), ("astray", ""))

    def test_more_entries(self):
        self.faults(state(MAIN, HOST[:4] + ((0, 0),), UTIL), ("doubled", "main"))
        self.faults(state(MAIN, HOST, UTIL[:4] + ((0,),)), ("doubled", "main"))
        self.faults(state(MAIN, HOST[:4] + ((0, 2),), UTIL), ("doubled", "util"))
        self.faults(state(MAIN[:4] + ((0,),), HOST, UTIL), ("doubled", "main"))

    def test_entries_of_instances_that_are_not_current(self):
        old = ("main", 0, None, (), ())
        self.faults(state(MAIN, HOST[:4] + ((0, 3),), UTIL, old), ("elder", "main"), ("doubled", "main"))
        # As many as in the fresh state, whoever of them has entered.
        self.faults(state(MAIN, HOST[:4] + ((3,),), UTIL, old), ("elder", "main"))

    def test_entries_in_instances_that_are_not_current(self):
        main = MAIN[:3] + ((("h", 1), ("k", 3)), ())
        self.faults(state(main, HOST, UTIL, ("util", 0, None, (), (0, 0, 2))), ("elder", "util"))
        self.faults(state(main, HOST, UTIL, ("host", 0, "red", (), (0, 0))), ("elder", "host"))


class Lacking(Faults):
    def test_no_current_instance(self):
        self.faults(state(MAIN, HOST, current=(0, 1, None, None)), ("lacking", "util"))
        self.faults(((0, 0, 0, 0), (), (None,) * 4, ()), ("lacking", "main"), ("lacking", "host"), ("lacking", "util"),
                    ("astray", ""))

    def test_a_module_that_the_fresh_state_lacks_as_well(self):
        self.faults(state(MAIN, HOST, UTIL))

    def test_fewer_listeners(self):
        self.faults(state(MAIN, HOST, UTIL, listeners=()), ("lacking", "main"), ("astray", ""))

    def test_fewer_listeners_although_others_are_more(self):
        self.faults(state(MAIN, HOST, UTIL, listeners=((0, "tick", "listenheld", "h"),)),
                    ("doubled", "main"), ("lacking", "main"))

    def test_fewer_of_several_equal_listeners(self):
        body = (("listen", "tick", "host"),) * 3
        self.graph = program(main=(edition(("host",), body),), host=(PLAIN,))
        instances = (("main", 0, None, (), ()), ("host", 0, None, (), ()))
        self.faults(((0, 0), instances, (0, 1), (TICK,) * 3))
        self.faults(((0, 0), instances, (0, 1), (TICK,) * 2), ("lacking", "main"), ("astray", ""))
        self.faults(((0, 0), instances, (0, 1), (TICK,) * 4), ("doubled", "main"), ("astray", ""))

    def test_fewer_entries(self):
        self.faults(state(MAIN, HOST[:4] + ((),), UTIL), ("lacking", "main"))
        self.faults(state(MAIN, HOST[:4] + ((2,),), UTIL), ("doubled", "util"), ("lacking", "main"))

    def test_entries_only_in_an_instance_that_is_not_current(self):
        self.faults(state(MAIN, HOST, ("host", 0, "red", (), ()), UTIL, current=(0, 2, 3, None)),
                    ("elder", "host"), ("lacking", "main"))

    def test_a_module_without_a_current_instance_has_no_entries(self):
        self.faults(state(MAIN, HOST, UTIL, current=(0, None, 2, None)),
                    ("elder", "host"), ("lacking", "main"), ("lacking", "host"), ("astray", ""))

    def test_slots(self):
        self.faults(state(MAIN[:3] + ((("h", None),), ()), HOST, UTIL), ("lacking", "main"))
        self.faults(state(MAIN[:3] + ((), ()), HOST, UTIL), ("lacking", "main"))
        self.faults(state(MAIN[:3] + ((("k", 1),), ()), HOST, UTIL), ("lacking", "main"))

    def test_a_slot_that_holds_any_instance_is_not_lacking(self):
        self.faults(state(MAIN[:3] + ((("h", 0),), ()), HOST, UTIL))
        self.faults(state(MAIN[:3] + ((("k", None), ("h", 3)), ()), HOST, UTIL, ("host", 1, "red", (), ())),
                    ("elder", "host"))

    def test_slots_that_the_fresh_state_does_not_know(self):
        self.faults(state(MAIN[:3] + ((("h", 1), ("k", None), ("l", 2)), ()), HOST, UTIL[:3] + ((("h", None),), ())))

    def test_only_the_slots_of_the_current_instance(self):
        old = ("main", 0, None, (("h", 1),), ())
        self.faults(state(MAIN[:3] + ((("k", 3),), ()), HOST, UTIL, old), ("elder", "main"), ("lacking", "main"))
        self.faults(state(MAIN[:3] + ((("h", 1), ("k", 3)), ()), HOST, UTIL, old[:3] + ((), ())), ("elder", "main"))


class More(Faults):
    def test_a_current_instance_that_the_fresh_state_has_not(self):
        self.faults(state(MAIN, HOST, UTIL, ("spare", 0, None, (), ()), current=(0, 1, 2, 3)), ("more", "spare"))

    def test_an_instance_that_is_not_current(self):
        self.faults(state(MAIN, HOST, UTIL[:3] + ((("h", 3),), ()), ("spare", 0, None, (), ())), ("elder", "spare"))

    def test_a_module_that_the_sources_have_dropped(self):
        graph = program(main=(edition(("a",), accepts=SELF), edition(accepts=SELF)), a=(PLAIN,))
        for rule in all_rules():
            self.assertEqual(judge(graph, rule, zeros(graph), ("edit", "main", 1)), [("more", "a")])


class Astray(Faults):
    def test_another_edition_is_called(self):
        self.faults(state(MAIN, ("host", 1, "red", (), (0,)), UTIL), ("behind", "host"), ("astray", ""))

    def test_another_edition_calls(self):
        listener = (1, "tock", "listenheld", "h")
        self.graph = program(main=(edition(("host",)),), host=(edition((), (("listenheld", "tock", "h"),)),) * 2)
        instances = (("main", 0, None, (), ()), ("host", 1, None, (), ()))
        self.faults(((0, 1), instances, (0, 1), (listener,)))
        self.faults(((0, 0), instances, (0, 1), (listener,)), ("behind", "host"), ("astray", ""))

    def test_nobody_is_called(self):
        self.faults(state(("main", 0, None, (), ()), UTIL, current=(0, None, 1, None)),
                    ("lacking", "main"), ("lacking", "host"), ("astray", ""))

    def test_an_old_instance_of_the_same_edition_is_not_astray(self):
        body = (("hold", "h", "host"), ("listenheld", "tick", "h"))
        self.graph = program(main=(edition(("host",), body),), host=(RED, RED))
        listeners = ((0, "tick", "listenheld", "h"),)
        instances = (MAIN, ("host", 0, "blue", (), ()), ("host", 0, "red", (), ()))
        self.faults(((0, 0), instances, (0, 2), listeners), ("elder", "host"))
        instances = (MAIN, ("host", 1, "blue", (), ()), ("host", 0, "red", (), ()))
        self.faults(((0, 0), instances, (0, 2), listeners), ("elder", "host"), ("astray", ""))

    def test_the_order_of_the_calls_and_their_words_make_no_difference(self):
        body = (("listen", "tick", "host"), ("listen", "tick", "util"))
        self.graph = program(main=(edition(("host", "util"), body),), host=(RED,), util=(RED,))
        instances = (("main", 0, None, (), ()), ("host", 0, "blue", (), ()), ("util", 0, "red", (), ()))
        listeners = ((0, "tick", "listen", "util"), (0, "tick", "listen", "host"))
        self.faults(((0, 0, 0), instances, (0, 1, 2), listeners))
        self.faults(((0, 0, 0), instances, (0, 1, 2), listeners[:1] * 2),
                    ("doubled", "main"), ("lacking", "main"), ("astray", ""))

    def test_the_number_of_equal_calls_counts(self):
        main = (("listen", "tick", "host"), ("listenheld", "tick", "h"), ("hold", "h", "host"))
        self.graph = program(main=(edition(("host",), main),), host=(PLAIN,))
        instances = (MAIN, ("host", 0, None, (), ()))
        both = (TICK, (0, "tick", "listenheld", "h"))
        self.faults(((0, 0), instances, (0, 1), both))
        self.faults(((0, 0), instances, (0, 1), both[:1]), ("lacking", "main"), ("astray", ""))
        self.faults(((0, 0), instances, (0, 1), both[:1] * 2), ("doubled", "main"), ("lacking", "main"))

    def test_each_event(self):
        self.faults(state(MAIN, HOST, UTIL, listeners=(TICK, (2, "tock", "listen", "util"))),
                    ("doubled", "util"), ("astray", ""))
        self.faults(state(MAIN, HOST, UTIL, listeners=((0, "tock", "listen", "host"),)),
                    ("doubled", "main"), ("lacking", "main"), ("astray", ""))

    def test_a_graph_without_events(self):
        self.graph = Graph(("red",), (), (("main", (PLAIN,)),), "main")
        self.faults(((0,), (), (None,), ()), ("lacking", "main"))


class Dropped(unittest.TestCase):
    def judged(self, graph, rule, before, deed, *wanted):
        self.assertTrue(is_state(graph, before))
        self.assertEqual(judge(graph, rule, before, deed), list(wanted))

    def graph_of(self, *a):
        return program(main=(edition(("a",), (("cell", "red"),), accepting("a")),), a=a)

    def test_an_edit_that_loses_a_word(self):
        graph = self.graph_of(RED, RED, BLUE)
        for rule in all_rules():
            before = after(graph, rule, ("set", "a", "blue"))
            self.judged(graph, rule, before, ("edit", "a", 1), ("dropped", "a"))
            self.judged(graph, rule, before, ("edit", "a", 2))
            self.judged(graph, rule, before, ("edit", "a", 0))
            self.judged(graph, rule, zeros(graph), ("edit", "a", 1))
            self.judged(graph, rule, zeros(graph), ("edit", "a", 2), ("dropped", "a"))

    def test_an_edit_that_carries_it(self):
        graph = self.graph_of(edition((), (("cell", "red"),), (), CARRY), RED)
        for rule in all_rules():
            wanted = [("dropped", "a")] if rule[2] == "lost" else []
            self.judged(graph, rule, after(graph, rule, ("set", "a", "blue")), ("edit", "a", 1), *wanted)

    def test_a_cell_before_and_after_it(self):
        graph = self.graph_of(RED, PLAIN, BLUE)
        for rule in all_rules():
            self.judged(graph, rule, zeros(graph), ("edit", "a", 1))
            self.judged(graph, rule, start(graph, (0, 1)), ("edit", "a", 2))

    def test_no_current_instance_before_or_after_it(self):
        graph = program(main=(edition(("a",), accepts=SELF), edition(accepts=SELF)),
                        a=(edition(("b",), (("cell", "red"),)),), b=(edition(("a",)), edition(("a",))))
        for rule in all_rules():
            gone = after(graph, rule, ("set", "a", "blue"), ("edit", "main", 1))
            self.judged(graph, rule, gone, ("edit", "b", 1))
            gone = after(graph, rule, ("edit", "main", 1), ("edit", "b", 1))
            self.judged(graph, rule, gone, ("edit", "main", 0))

    def test_other_modules_than_the_edited_one(self):
        graph = program(main=(edition(("a", "b"), (("cell", "red"),)),), b=(edition(("a",), (("cell", "red"),)),),
                        a=(RED, RED))
        before = after(graph, LOST, ("set", "main", "blue"), ("set", "b", "blue"), ("set", "a", "blue"))
        self.judged(graph, LOST, before, ("edit", "a", 1), ("dropped", "main"), ("dropped", "b"), ("dropped", "a"))
        self.judged(graph, ("near", "stay", "lost"), before, ("edit", "a", 1), ("behind", "a"))
        self.judged(graph, ("near", "reload", "lost"), before, ("edit", "a", 1),
                    ("dropped", "main"), ("dropped", "b"), ("dropped", "a"), ("reloaded", ""))

    def test_reloads(self):
        graph = self.graph_of(edition((), (("cell", "red"),), (), CARRY))
        for rule in all_rules():
            before = after(graph, rule, ("set", "a", "blue"))
            self.judged(graph, rule, before, ("reload",), ("dropped", "a"))
            self.judged(graph, rule, zeros(graph), ("reload",))

    def test_sets_and_fires(self):
        graph = self.graph_of(RED)
        for rule in all_rules():
            self.judged(graph, rule, zeros(graph), ("set", "a", "blue"))
            self.judged(graph, rule, zeros(graph), ("fire", "tick"))

    def test_old_instances(self):
        graph = program(main=(edition(("a",), (("hold", "h", "a"),), accepting("a")),), a=(RED, RED))
        instances = (("main", 0, None, (("h", 1),), ()), ("a", 0, "blue", (), ()), ("a", 0, "red", (), ()))
        self.judged(graph, LOST, ((0, 0), instances, (0, 2), ()), ("edit", "a", 1), ("elder", "a"))


class Reloaded(unittest.TestCase):
    def test_an_edit_that_climbs_past_the_top(self):
        graph = program(main=(edition(("a",)),), a=(PLAIN, PLAIN))
        for rule in all_rules():
            wanted = {"reload": [("reloaded", "")], "stay": [("behind", "a")], "again": []}[rule[1]]
            self.assertEqual(judge(graph, rule, zeros(graph), ("edit", "a", 1)), wanted)
            self.assertEqual(judge(graph, rule, zeros(graph), ("edit", "a", 0)), [])
            self.assertEqual(judge(graph, rule, zeros(graph), ("reload",)), [])

    def test_an_edit_that_is_accepted(self):
        graph = program(main=(edition(("a",), accepts=accepting("a")),), a=(PLAIN, PLAIN), b=(PLAIN, PLAIN))
        for rule in all_rules():
            self.assertEqual(judge(graph, rule, zeros(graph), ("edit", "a", 1)), [])
            self.assertEqual(judge(graph, rule, zeros(graph), ("edit", "b", 1)), [])


class Crowded(unittest.TestCase):
    def test_a_refused_deed(self):
        main = edition(("a",), (("hold", "h", "a"),), accepting("a"))
        for most, wanted in ((2, [("crowded", "")]), (3, [("elder", "a")])):
            graph = program(most=most, main=(main,), a=(PLAIN, PLAIN))
            for rule in all_rules():
                self.assertEqual(judge(graph, rule, zeros(graph), ("edit", "a", 1)), wanted)

    def test_it_is_neither_dropped_nor_reloaded(self):
        main = edition(("a",), (("hold", "h", "a"),), accepting("a"))
        graph = program(most=2, main=(main,), a=(RED, BLUE))
        for rule in all_rules():
            before = after(graph, rule, ("set", "a", "blue"))
            self.assertEqual(judge(graph, rule, before, ("edit", "a", 1)), [("crowded", "")])


class Kinds(unittest.TestCase):
    def test_the_nine_kinds(self):
        self.assertEqual(KINDS, ("behind", "elder", "doubled", "lacking", "more", "astray", "dropped", "reloaded",
                                 "crowded"))

    def test_the_fresh_state_is_the_start_of_the_sources(self):
        graph = example()
        changed = step(graph, LOST, zeros(graph), ("edit", "host", 1)).state
        self.assertEqual(state_faults(graph, changed), [("lacking", "util")])
        self.assertEqual(state_faults(graph, ((0, 0, 0),) + start(graph, (0, 1, 0))[1:]), [("behind", "host")])


if __name__ == "__main__":
    unittest.main()

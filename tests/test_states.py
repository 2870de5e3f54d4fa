"""What is a state of a graph, for values of every kind."""

import copy
import itertools
import random
import unittest

from swappedhot.graphs import Graph
from swappedhot.running import start
from swappedhot.states import is_sources, is_state
from tests.samples import PLAIN, any_values, edition, example

CELL = edition((), (("cell", "red"),))


def graph_of(most=5, events=("tick", "tock")):
    main = ("main", (edition(("host",), (("hold", "h", "host"),)), PLAIN))
    host = ("host", (CELL, PLAIN, edition(("util",), (("cell", "blue"),))))
    util = ("util", (PLAIN,))
    return Graph(("red", "blue"), events, (main, host, util), "main", most=most)


def instance(module="main", number=0, word=None, holds=(), entries=()):
    return (module, number, word, holds, entries)


MAIN = instance()
HOST = instance("host", 0, "red")
UTIL = instance("util")


def state(instances=(MAIN,), current=(0, None, None), listeners=(), sources=(0, 0, 0)):
    return (sources, instances, current, listeners)


class Checks(unittest.TestCase):
    def setUp(self):
        self.graph = graph_of()

    def good(self, *values, graph=None):
        for value in values:
            self.assertIs(is_state(graph or self.graph, value), True, value)

    def bad(self, *values, graph=None):
        for value in values:
            self.assertIs(is_state(graph or self.graph, value), False, value)


class GoodStates(Checks):
    def test_starts_are_states(self):
        for graph in (self.graph, example()):
            for sources in graph.all_sources():
                self.good(start(graph, sources), graph=graph)

    def test_a_state_without_instances(self):
        self.good(state((), (None, None, None)))

    def test_a_top_without_a_current_instance(self):
        self.good(state((HOST,), (None, 0, None)))

    def test_editions_that_the_sources_do_not_name(self):
        self.good(state((instance(number=1),)), state(sources=(1, 2, 0)))

    def test_modules_that_nobody_imports(self):
        self.good(state((UTIL, MAIN, instance("host", 1)), (1, 2, 0)))

    def test_slots_and_entries_that_no_edition_makes(self):
        odd = instance("util", 0, None, (("x", None), ("abcdefgh", 0), ("main", 0)), (0, 0, 0))
        self.good(state((odd,), (None, None, 0)))

    def test_listeners_that_no_edition_makes(self):
        listeners = ((0, "tick", "listen", "main"), (0, "tock", "listenheld", "x"), (0, "tick", "listen", "util"))
        self.good(state(listeners=listeners))

    def test_equal_listeners(self):
        self.good(state(listeners=((0, "tick", "listen", "main"),) * 3))

    def test_each_way_to_be_living(self):
        self.good(state((MAIN, HOST), (0, 1, None)))
        self.good(state((MAIN, HOST), listeners=((1, "tick", "listen", "main"),)))
        self.good(state((instance(holds=(("h", 1),)), HOST)))
        self.good(state((instance(entries=(1,)), HOST)))

    def test_living_through_others(self):
        chain = (instance(holds=(("h", 1),)), instance("util", 0, None, (), (2,)), instance("host", 0, "red"))
        self.good(state(chain))
        ring = (instance(entries=(1,)), instance("util", 0, None, (), (2,)), instance("util", 0, None, (("h", 1),), ()))
        self.good(state(ring))
        first = (instance("util"), instance("util", 0, None, (), (0,)))
        self.good(state(first, (None, None, None), ((1, "tick", "listen", "main"),)))

    def test_several_instances_of_one_module(self):
        olds = (instance("host", 1), instance("host", 1), instance("host", 0, "blue"))
        self.good(state(olds + (instance(entries=(0, 1)),), (3, 2, None)))

    def test_each_word_of_the_graph_may_be_in_a_cell(self):
        self.good(*[state((instance("host", number, word),), (None, 0, None))
                    for number, word in itertools.product((0, 2), ("red", "blue"))])

    def test_exactly_most(self):
        many = (instance("main", 0, None, (), (0,) * 5),) + (instance("util"),) * 4
        listeners = tuple([(k, "tick", "listenheld", "h") for k in range(5)])
        self.good(state(many, listeners=listeners))
        small = graph_of(most=3)
        few = (instance("main", 0, None, (), (1, 1, 2)), instance("util"), instance("util"))
        self.good(state(few, listeners=((0, "tick", "listen", "main"),) * 3), graph=small)

    def test_slots_are_not_bounded(self):
        holds = tuple([("s" + letter, 0) for letter in "abcdefghijklmnopqrstuvwxyz"])
        self.good(state((instance(holds=holds),)))


class BadStates(Checks):
    def test_any_value(self):
        self.bad(*any_values())
        for place in range(4):
            for value in any_values():
                whole = list(state())
                if value == whole[place]:
                    continue
                whole[place] = value
                self.bad(tuple(whole))

    def test_a_state_has_four_parts(self):
        good = state()
        self.bad(good[:3], good + ((),), list(good), {0: good}, (good,))

    def test_sources(self):
        for sources in ((0, 0), (0, 0, 0, 0), [0, 0, 0], (0, 0, 1), (0, 3, 0), (2, 0, 0), (-1, 0, 0), (0, False, 0),
                        (True, 0, 0), (None, 0, 0), ("0", 0, 0), (0, 0, 10 ** 3999), ()):
            self.bad(state(sources=sources))

    def test_instances_are_a_tuple_of_tuples_of_five(self):
        self.bad(state([MAIN]), state((list(MAIN),)), state((MAIN[:4],)), state((MAIN + ((),),)), state(MAIN))
        self.bad(*[state((value,)) for value in any_values()])

    def test_the_module_of_an_instance(self):
        for value in any_values() + ["hos", "tick", ("main",)]:
            if value != "main":
                self.bad(state((instance(value),)))
                self.bad(state((MAIN, instance(value)), listeners=((1, "tick", "listen", "main"),)))

    def test_the_edition_of_an_instance(self):
        for value in any_values() + [2, 3, -1]:
            if value != 0 or value is False:
                if value == 1 and value is not True:
                    continue
                self.bad(state((instance(number=value),)))
        self.bad(state((instance("util", 1),), (None, None, 0)))
        self.bad(state((instance("host", 3),), (None, 0, None)))

    def test_the_word_of_an_instance(self):
        for value in any_values() + ["green", "tick", ("red",), ["red"]]:
            self.bad(state((instance("host", 0, value),), (None, 0, None)))
            self.bad(state((instance("host", 2, value),), (None, 0, None)))
            if value is not None:
                self.bad(state((instance("host", 1, value),), (None, 0, None)))
        self.bad(state((instance("host", 1, "red"),), (None, 0, None)), state((instance(word="blue"),)))

    def test_the_holds_of_an_instance(self):
        for holds in ([("h", 0)], (["h", 0],), (("h",),), (("h", 0, 0),), ("h", 0), ("hh",), None, "h", {"h": 0},
                      (("H", 0),), (("", 0),), ((0, 0),), ((None, 0),), ((["h"], 0),), (("abcdefghi", 0),),
                      (("h", 1),), (("h", -1),), (("h", False),), (("h", "0"),), (("h", (0,)),), (("h", [0]),),
                      (("h", 10 ** 3999),), (("h", 0), ("h", 0)), (("h", None), ("k", 0), ("h", 0)), ((),)):
            self.bad(state((instance(holds=holds),)))

    def test_the_entries_of_an_instance(self):
        for entries in ([0], (1,), (-1,), (False,), (None,), ("0",), ((0,),), ([0],), None, 0, "", {}, (0, 0, 1)):
            self.bad(state((instance(entries=entries),)))

    def test_current(self):
        for current in ([0, None, None], (0, None), (0, None, None, None), (False, None, None), (1, None, None),
                        (-1, None, None), ("0", None, None), (0, 0, None), (None, 0, None), (0, None, 0), None, 0,
                        ("main", None, None), ((0,), None, None), ([], None, None), (0, False, None)):
            self.bad(state(current=current))
        self.bad(state((MAIN, HOST), (1, 0, None)), state((MAIN, HOST), (1, 1, None)))

    def test_true_stands_for_no_index(self):
        good = (MAIN, instance("host", 1, None, (("h", 1),), (1,)))
        self.good(state(good, (0, 1, None), ((1, "tick", "listen", "main"),)))
        self.bad(state(good, (0, True, None)))
        self.bad(state(good, (0, 1, None), ((True, "tick", "listen", "main"),)))
        self.bad(state((MAIN, instance("host", True)), (0, 1, None)))
        self.bad(state((MAIN, instance("host", 1, None, (("h", True),))), (0, 1, None)))
        self.bad(state((MAIN, instance("host", 1, None, (), (True,))), (0, 1, None)))

    def test_listeners(self):
        good = (0, "tick", "listen", "main")
        for listener in (list(good), good[:3], good + ("main",), (1,) + good[1:], (-1,) + good[1:],
                         (False,) + good[1:], (None,) + good[1:], ("0",) + good[1:], ((0,),) + good[1:],
                         (0, "tack", "listen", "main"), (0, None, "listen", "main"), (0, ["tick"], "listen", "main"),
                         (0, "tick", "listens", "main"), (0, "tick", None, "main"), (0, "tick", "hold", "main"),
                         (0, "tick", ("listen",), "main"), (0, "tick", "listen", "h"), (0, "tick", "listen", None),
                         (0, "tick", "listen", ["main"]), (0, "tick", "listenheld", "H"),
                         (0, "tick", "listenheld", ""), (0, "tick", "listenheld", "abcdefghi"),
                         (0, "tick", "listenheld", 0), (0, "tick", "listenheld", None),
                         (0, "tick", "listenheld", ["h"]), None, 0, "tick", [], {}, ()):
            self.bad(state(listeners=(listener,)), state(listeners=(good, listener)))
        self.bad(state(listeners=[good]), state(listeners=good), state(listeners=None), state(listeners={}))

    def test_events_of_this_very_graph(self):
        value = state(listeners=((0, "tock", "listen", "main"),))
        self.good(value)
        self.bad(value, graph=graph_of(events=("tick",)))
        self.bad(value, graph=graph_of(events=()))

    def test_one_more_than_most(self):
        small = graph_of(most=3)
        holder = instance(holds=(("a", 1), ("b", 2), ("c", 3)))
        self.good(state((holder,) + (UTIL,) * 3))
        self.bad(state((holder,) + (UTIL,) * 3), graph=small)
        listeners = ((0, "tick", "listen", "main"),) * 4
        self.good(state(listeners=listeners))
        self.bad(state(listeners=listeners), graph=small)
        entries = state((instance(entries=(0,) * 4),))
        self.good(entries)
        self.bad(entries, graph=small)
        self.bad(state((instance(entries=(0,) * 6),)), state(listeners=listeners + listeners))
        self.bad(state((instance(entries=(1, 2, 3, 4, 4)),) + (UTIL,) * 5, listeners=((5, "tick", "listen", "main"),)))

    def test_instances_that_are_not_living(self):
        self.bad(state((MAIN, HOST)), state((HOST, MAIN), (1, None, None)), state((MAIN,), (None, None, None)))
        self.bad(state((MAIN, instance("host", 1, None, (("h", 1),), (1,)))))
        pair = (instance("util", 0, None, (("h", 2),)), instance("util", 0, None, (), (1,)))
        self.bad(state((MAIN,) + pair))
        self.good(state((instance(entries=(2,)),) + pair))
        self.bad(state((MAIN, instance("util", 0, None, (("h", 0),), (0,)))))
        self.bad(state((MAIN, instance("host", 0, "red", (("h", None),)))))

    def test_a_slot_may_be_listened_to_without_being_living(self):
        self.bad(state((MAIN, HOST), listeners=((0, "tick", "listen", "host"),)))


class Sources(unittest.TestCase):
    def test_sources(self):
        graph = graph_of()
        good = [(a, b, 0) for a in range(2) for b in range(3)]
        for value in good:
            self.assertIs(is_sources(graph, value), True)
        for value in any_values() + [(0, 0), (0, 3, 0), (0, 0, -1), [0, 0, 0], (0, 0, False), (True, 0, 0)]:
            self.assertIs(is_sources(graph, value), False)


class Broken(unittest.TestCase):
    """Values that differ from a good state in one small thing."""

    def wrecked(self, value, chance):
        """The value with one item, at some depth, put in the place of another."""
        if isinstance(value, tuple) and value and chance.random() < 0.85:
            place = chance.randrange(len(value))
            return value[:place] + (self.wrecked(value[place], chance),) + value[place + 1:]
        if isinstance(value, tuple) and chance.random() < 0.5:
            return list(value)
        if isinstance(value, int) and chance.random() < 0.5:
            return bool(value)
        return chance.choice([-1, 9, True, False, "", "Main", [], {}, ((),), [0], "ninetynine"])

    def test_arguments_are_not_modified_and_nothing_fails(self):
        chance = random.Random(1)
        graph = graph_of()
        good = state((instance(holds=(("h", 1),), entries=(1, 2)), HOST, UTIL), (0, 1, None),
                     ((2, "tick", "listen", "host"), (0, "tock", "listenheld", "h")))
        self.assertTrue(is_state(graph, good))
        for _ in range(2000):
            value = self.wrecked(good, chance)
            before = copy.deepcopy(value)
            self.assertIs(is_state(graph, value), False, value)
            self.assertEqual(repr(value), repr(before))


if __name__ == "__main__":
    unittest.main()

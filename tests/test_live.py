"""Live programs: deeds that are done, refused or none, batches, previews, undoing and forks."""

import copy
import random
import unittest

from swappedhot.errors import (BadDeed, BatchRefused, InvalidRule, NoModule, NotAState, NothingToUndo, TooMany)
from swappedhot.judging import state_faults
from swappedhot.live import Live
from swappedhot.rules import all_rules
from swappedhot.states import is_state
from swappedhot.swapping import Step, is_deed, step
from tests import drawn, second
from tests.samples import PLAIN, RED, any_values, edition, example, leaving, listening, program, with_true, zeros

LOST = ("near", "again", "lost")
KEPT = ("near", "again", "kept")
STAY = ("far", "stay", "lost")
RELOAD = ("far", "reload", "kept")
BLUE_HOST = ("edit", "host", 1)


def told(live):
    """Everything that a live program shows."""
    return (live.graph, live.rule, live.state, live.done, len(live), live.faults(),
            [live[name] for name in live.graph.names], [name in live for name in live.graph.names])


def wrong_deeds(graph):
    wrong = [list(deed) for deed in drawn.deeds_of(graph)] + [with_true(("edit", graph.top, 0)), ("edit", "host", 2),
                                                              ("edit", "host", -1), ("fire", "tock"), ("reload", 0),
                                                              ("set", "host", "green"), ("set", "nobody", "red")]
    return wrong + [value for value in any_values() if not is_deed(graph, value)]


class Tests(unittest.TestCase):
    def unchanged(self, live, error, call, **attributes):
        """The call raises the error, with these attributes, and the live program is as before."""
        before, listed = told(live), list(live.befores)
        with self.assertRaises(error) as caught:
            call()
        self.assertIs(type(caught.exception), error)
        for name, value in attributes.items():
            self.assertEqual(repr(getattr(caught.exception, name)), repr(value))
        self.assertEqual(told(live), before)
        self.assertEqual(live.befores, listed)

    def undone(self, live, states):
        """The deeds can be undone, and each time the state is the one before."""
        while states:
            last = live.done[-1]
            self.assertEqual(live.undo(), last)
            self.assertEqual(live.state, states.pop())
        self.unchanged(live, NothingToUndo, live.undo)


class Beginnings(Tests):
    def test_the_start_of_zeros(self):
        for live in (Live(example(), LOST), Live(example(), LOST, state=None)):
            self.assertEqual((live.graph, live.rule, live.state, live.done), (example(), LOST, zeros(example()), ()))
        graph = example()
        self.assertIs(Live(graph, LOST).graph, graph)

    def test_a_state(self):
        graph = example()
        state = step(graph, LOST, zeros(graph), BLUE_HOST).state
        live = Live(graph, STAY, state=state)
        self.assertEqual((live.state, live.done, live.rule), (state, (), STAY))
        self.assertEqual(live.faults(), [("lacking", "util")])
        self.unchanged(live, NothingToUndo, live.undo)

    def test_states_that_no_deed_reaches(self):
        """Each deed leads from there as step says, for live programs as for steps."""
        chance = random.Random(50)
        for _ in range(60):
            graph, rule = drawn.draw_graph(chance), chance.choice(all_rules())
            state = drawn.draw_state(chance, graph)
            live, states = Live(graph, rule, state=state), []
            for _ in range(6):
                deed = chance.choice(drawn.deeds_of(graph))
                wanted = second.step(graph, rule, live.state, deed)
                self.assertEqual(live.preview([deed]) if not isinstance(wanted, str) else wanted,
                                 wanted if isinstance(wanted, str) else wanted[0])
                if isinstance(wanted, str):
                    self.unchanged(live, TooMany, lambda: live.do(deed), what=wanted)
                else:
                    states.append(live.state)
                    made = live.do(deed)
                    self.assertEqual((made.state, made.calls, made.trace), wanted)
                    self.assertEqual(live.state, wanted[0])
                self.assertTrue(is_state(graph, live.state))
                self.assertEqual(live.faults(), second.ordered(graph, second.faults(graph, live.state)))
            fork = live.fork()
            self.undone(live, list(states))
            self.undone(fork, states)
            self.assertEqual((live.state, fork.state), (state, state))

    def test_by_hand_from_a_state_that_no_deed_reaches(self):
        graph = example()
        nothing = ((0, 1, 0), (), (None, None, None), ())
        live = Live(graph, LOST, state=nothing)
        self.assertEqual([live[name] for name in graph.names], [None, None, None])
        self.assertEqual([name in live for name in graph.names], [False, False, False])
        self.assertEqual(live.faults(), [("lacking", "main"), ("lacking", "host"), ("lacking", "util"), ("astray", "")])
        self.assertIsNone(live.edit("host", 0))
        self.assertEqual(live.state, ((0, 0, 0),) + nothing[1:])
        live["host"] = "red"
        self.assertEqual(live.fire("tick"), ())
        live.reload()
        self.assertEqual((live.state, live["host"]), (zeros(graph), "red"))
        self.assertEqual(len(live), 4)
        self.undone(live, [nothing] + [((0, 0, 0),) + nothing[1:]] * 3)

    def test_wrong_states(self):
        graph = example()
        values = [value for value in any_values() if value is not None]
        values += [list(zeros(graph)), with_true(zeros(graph)), zeros(graph)[:3], zeros(graph) + ((),),
                   zeros(leaving()), ((0, 2, 0),) + zeros(graph)[1:], (zeros(graph),)]
        for value in values:
            before = copy.deepcopy(value)
            with self.assertRaises(NotAState):
                Live(graph, LOST, state=value)
            self.assertEqual(repr(value), repr(before))

    def test_wrong_rules_come_first(self):
        for value in any_values():
            for state in (None, zeros(example()), False, "no state"):
                with self.assertRaises(InvalidRule) as caught:
                    Live(example(), value, state=state)
                self.assertEqual(caught.exception.path, ())
        with self.assertRaises(InvalidRule) as caught:
            Live(example(), ("near", "lost", "again"), state=0)
        self.assertEqual(caught.exception.path, (1,))


class Doing(Tests):
    def test_a_deed_that_is_done(self):
        graph = example()
        live = Live(graph, LOST)
        made = live.do(BLUE_HOST)
        wanted = step(graph, LOST, zeros(graph), BLUE_HOST)
        self.assertIsInstance(made, Step)
        self.assertEqual(vars(made), vars(wanted))
        self.assertEqual((live.state, live.done, len(live)), (wanted.state, (BLUE_HOST,), 1))
        self.assertEqual(live.faults(), [("lacking", "util")])

    def test_deeds_that_change_nothing_are_added(self):
        live = Live(example(), LOST)
        deeds = (("fire", "tick"), ("edit", "host", 0), ("set", "main", "red"), ("set", "host", "red"), ("reload",))
        for number, deed in enumerate(deeds):
            live.do(deed)
            self.assertEqual((live.done, len(live)), (deeds[:number + 1], number + 1))
            self.assertEqual(live.state, zeros(example()))
        self.undone(live, [zeros(example())] * 5)

    def test_a_deed_that_is_refused(self):
        live = Live(listening(), LOST)
        self.unchanged(live, BadDeed, lambda: live.do(("edit", "a", 2)), deed=("edit", "a", 2))
        live.do(("edit", "a", 1))
        live.do(("edit", "a", 0))
        self.unchanged(live, TooMany, lambda: live.do(("edit", "a", 1)), what="listeners")
        self.unchanged(live, TooMany, lambda: live.edit("a", 1), what="listeners")
        self.assertEqual(live.done, (("edit", "a", 1), ("edit", "a", 0)))
        live.do(("reload",))
        live.do(("edit", "a", 1))
        self.assertEqual(len(live), 4)

    def test_a_value_that_is_no_deed(self):
        live = Live(example(), LOST)
        live.do(BLUE_HOST)
        for value in wrong_deeds(example()):
            self.unchanged(live, BadDeed, lambda: live.do(value), deed=value)

    def test_edit(self):
        live = Live(example(), LOST)
        self.assertIsNone(live.edit("host", 1))
        wanted = step(example(), LOST, zeros(example()), BLUE_HOST).state
        self.assertEqual((live.done, live.state), ((BLUE_HOST,), wanted))
        self.assertIsNone(live.edit("host", 1))
        self.assertEqual(live.done, (BLUE_HOST,) * 2)
        for value in any_values():
            if value != "main":
                self.unchanged(live, BadDeed, lambda: live.edit(value, 0), deed=("edit", value, 0))
            if repr(value) not in ("0", "1"):
                self.unchanged(live, BadDeed, lambda: live.edit("host", value), deed=("edit", "host", value))

    def test_fire(self):
        live = Live(example(), LOST)
        self.assertEqual(live.fire("tick"), (("main", 0, "util", 0, ""),))
        self.assertIsInstance(live.fire("tick"), tuple)
        self.assertEqual(live.done, (("fire", "tick"),) * 2)
        for value in any_values() + ["tock", "Tick", ("tick",), ["tick"]]:
            self.unchanged(live, BadDeed, lambda: live.fire(value), deed=("fire", value))
        quiet = Live(listening(), LOST)
        self.assertEqual(quiet.fire("tick"), ())
        self.assertEqual(len(quiet), 1)

    def test_reload(self):
        live = Live(example(), LOST)
        live.edit("host", 1)
        self.assertIsNone(live.reload())
        self.assertEqual((live.state[0], live.faults(), live.done), ((0, 1, 0), [], (BLUE_HOST, ("reload",))))
        self.assertIsNone(live.reload())
        self.assertEqual(len(live), 3)

    def test_the_list_of_faults_is_new(self):
        live = Live(example(), LOST)
        live.edit("host", 1)
        live.faults().clear()
        self.assertEqual(live.faults(), [("lacking", "util")])
        self.assertEqual(live.faults(), state_faults(example(), live.state))


class Rules(Tests):
    def graph(self):
        """An edit of a passes the top; its cell is carried."""
        a = edition((), (("cell", "red"),), (), (("carry",),))
        return program(main=(edition(("a",)),), a=(a, a))

    def test_use(self):
        live = Live(self.graph(), KEPT)
        live["a"] = "blue"
        live.edit("a", 1)
        self.assertEqual(live["a"], "blue")
        self.assertIsNone(live.use(LOST))
        self.assertEqual((live.rule, len(live)), (LOST, 2))
        live.edit("a", 0)
        self.assertEqual(live["a"], "red")
        live.use(STAY)
        live.edit("a", 1)
        self.assertEqual((live.faults(), live.rule), ([("behind", "a")], STAY))
        self.assertEqual(live.done, (("set", "a", "blue"), ("edit", "a", 1), ("edit", "a", 0), ("edit", "a", 1)))

    def test_wrong_rules(self):
        live = Live(self.graph(), KEPT)
        live.edit("a", 1)
        for value in any_values():
            self.unchanged(live, InvalidRule, lambda: live.use(value), path=())
        self.unchanged(live, InvalidRule, lambda: live.use(list(LOST)), path=())
        self.unchanged(live, InvalidRule, lambda: live.use(("near", "reload", "keep")), path=(2,))
        self.unchanged(live, InvalidRule, lambda: live.use(("again", "reload", "keep")), path=(0,))

    def test_undoing_leaves_the_rule(self):
        graph = self.graph()
        live = Live(graph, KEPT)
        live["a"] = "blue"
        kept = live.state
        live.edit("a", 1)
        live.use(STAY)
        again = live.state
        live.edit("a", 0)
        live.use(LOST)
        self.assertEqual((live.undo(), live.state, live.rule), (("edit", "a", 0), again, LOST))
        self.assertEqual((live.undo(), live.state, live.rule), (("edit", "a", 1), kept, LOST))
        live.edit("a", 1)
        self.assertEqual(live["a"], "red")
        self.undone(live, [zeros(graph), kept])
        self.assertEqual((live.state, live.rule), (zeros(graph), LOST))


class Words(Tests):
    def test_reading_and_setting(self):
        live = Live(example(), LOST)
        self.assertEqual([live["main"], live["host"], live["util"]], [None, "red", None])
        live["host"] = "blue"
        self.assertEqual((live["host"], live.done), ("blue", (("set", "host", "blue"),)))
        live["main"] = "blue"
        self.assertEqual((live["main"], len(live)), (None, 2))
        self.assertEqual(live.undo(), ("set", "main", "blue"))
        self.assertEqual(live.undo(), ("set", "host", "blue"))
        self.assertEqual(live["host"], "red")

    def test_the_current_instance_counts(self):
        host = (RED, edition((), (("cell", "blue"),)), PLAIN)
        main = edition(("host",), (("hold", "h", "host"),), (("host", ()),))
        live = Live(program(main=(main,), host=host), LOST)
        live.edit("host", 1)
        self.assertEqual((live["host"], live.faults()), ("blue", [("elder", "host")]))
        live["host"] = "red"
        self.assertEqual(live["host"], "red")
        live.edit("host", 2)
        self.assertIsNone(live["host"])

    def test_a_module_without_a_current_instance(self):
        live = Live(program(main=(PLAIN,), a=(RED,)), LOST)
        self.assertIsNone(live["a"])
        live["a"] = "blue"
        self.assertEqual((live["a"], live.done), (None, (("set", "a", "blue"),)))

    def test_any_value(self):
        live = Live(example(), LOST)
        live.edit("host", 1)
        for value in any_values() + ["nobody", "hos", "Host", ("host",), ["host"], b"host"]:
            if value == "main":
                continue
            self.unchanged(live, NoModule, lambda: live[value], name=value)
            self.unchanged(live, BadDeed, lambda: live.__setitem__(value, "red"), deed=("set", value, "red"))
            self.assertIs(value in live, False)
        for value in any_values() + ["green", "", "Red", ["red"]]:
            self.unchanged(live, BadDeed, lambda: live.__setitem__("host", value), deed=("set", "host", value))
            self.unchanged(live, BadDeed, lambda: live.__setitem__("main", value), deed=("set", "main", value))

    def test_in(self):
        live = Live(program(main=(edition(("a",)), PLAIN), a=(PLAIN,), b=(PLAIN,)), ("near", "again", "lost"))
        self.assertEqual([name in live for name in ("main", "a", "b", "c")], [True, True, False, False])
        self.assertIs("a" in live, True)
        self.assertIs("b" not in live, True)

    def test_a_live_program_is_not_iterated_over(self):
        with self.assertRaises(TypeError):
            list(Live(example(), LOST))


class Batches(Tests):
    deeds = (BLUE_HOST, ("fire", "tick"), ("edit", "host", 1), ("set", "host", "red"), ("reload",))

    def test_done_as_a_tuple_and_as_a_list(self):
        graph = example()
        single, states = Live(graph, LOST), []
        for deed in self.deeds:
            states.append(single.state)
            single.do(deed)
        for deeds in (self.deeds, list(self.deeds)):
            live = same = Live(graph, LOST)
            live += deeds
            self.assertIs(live, same)
            self.assertEqual(told(live), told(single))
            self.assertEqual(deeds, type(deeds)(self.deeds))
            self.undone(live, list(states))

    def test_behind_others(self):
        live = Live(example(), LOST)
        live.fire("tick")
        live += self.deeds[:2]
        live += [self.deeds[2]]
        live += ()
        live += []
        live.reload()
        self.assertEqual(live.done, (("fire", "tick"),) + self.deeds[:3] + (("reload",),))
        for deed in live.done[::-1]:
            self.assertEqual(live.undo(), deed)
        self.assertEqual(live.state, zeros(example()))

    def test_a_list_that_is_changed_afterwards(self):
        live = Live(example(), LOST)
        deeds = list(self.deeds)
        live += deeds
        before = told(live)
        deeds.clear()
        deeds.append("more")
        self.assertEqual(told(live), before)
        self.assertEqual((live.done, type(live.done)), (self.deeds, tuple))
        live.undo()
        self.assertEqual(live.done, self.deeds[:4])

    def refused(self, live, deeds, index):
        for items in (tuple(deeds), list(deeds)):
            before = copy.deepcopy(items)

            def add():
                other = live
                other += items

            self.unchanged(live, BatchRefused, add, index=index)
            self.unchanged(live, BatchRefused, lambda: live.preview(items), index=index)
            self.assertEqual(repr(items), repr(before))

    def test_refused_at_each_place(self):
        good = [("edit", "a", 1), ("fire", "tick"), ("set", "a", "red"), ("edit", "a", 0)]
        live = Live(listening(), LOST)
        live.fire("tock")
        for index in range(5):
            for value in any_values() + [list(good[0]), ("edit", "a", True), ("edit", "a", 2)]:
                self.refused(live, good[:index] + [value] + good[index:], index)
        self.refused(live, good + [("edit", "a", 1)], 4)
        self.refused(live, good + [("edit", "a", 1), None], 4)
        self.refused(live, good + [("fire", "tick"), ("edit", "a", 1), ("reload",)], 5)
        live += good
        self.refused(live, [("edit", "a", 1)], 0)
        self.refused(live, [("edit", "a", 1), ("reload",)], 0)
        self.refused(live, [None, ("edit", "a", 1)], 0)
        self.assertEqual(live.done, (("fire", "tock"),) + tuple(good))

    def test_preview(self):
        graph = example()
        live = Live(graph, LOST)
        live.do(("fire", "tick"))
        state = zeros(graph)
        for many in range(len(self.deeds) + 1):
            before = told(live)
            for deeds in (self.deeds[:many], list(self.deeds[:many])):
                self.assertEqual(live.preview(deeds), state)
            self.assertEqual(told(live), before)
            if many < len(self.deeds):
                state = step(graph, LOST, state, self.deeds[many]).state
        live.use(KEPT)
        self.assertEqual(live.preview(()), live.state)
        self.assertEqual(live.undo(), ("fire", "tick"))

    def test_the_rule_of_the_moment(self):
        graph = program(main=(edition(("a",)),), a=(PLAIN, PLAIN))
        live = Live(graph, STAY)
        self.assertEqual(state_faults(graph, live.preview([("edit", "a", 1)])), [("behind", "a")])
        live.use(RELOAD)
        self.assertEqual(state_faults(graph, live.preview([("edit", "a", 1)])), [])
        live += [("edit", "a", 1)]
        self.assertEqual(live.faults(), [])

    def test_drawn_batches(self):
        chance = random.Random(51)
        refused = 0
        for _ in range(300):
            graph, rule = drawn.draw_graph(chance), chance.choice(all_rules())
            live, single = Live(graph, rule), Live(graph, rule)
            edits = [deed for deed in drawn.deeds_of(graph) if deed[0] == "edit"]
            for _ in range(4):
                deeds = [chance.choice(edits + drawn.deeds_of(graph)) for _ in range(chance.randint(0, 12))]
                try:
                    for index, deed in enumerate(deeds):
                        single.do(deed)
                except TooMany:
                    refused += 1
                    for _ in range(index):
                        single.undo()
                    self.refused(live, deeds, index)
                else:
                    self.assertEqual(live.preview(deeds), single.state)
                    live += deeds
                self.assertEqual(told(live), told(single))
        self.assertGreater(refused, 10)


class Undoing(Tests):
    def test_down_to_nothing(self):
        graph = example()
        live = Live(graph, LOST)
        self.unchanged(live, NothingToUndo, live.undo)
        states = []
        for deed in (BLUE_HOST, ("fire", "tick"), ("edit", "host", 0), ("reload",)):
            states.append(live.state)
            live.do(deed)
        self.undone(live, states)
        self.assertEqual((live.state, live.done, len(live)), (zeros(graph), (), 0))

    def test_on_another_way(self):
        live = Live(example(), LOST)
        live += [BLUE_HOST, ("reload",)]
        live.undo()
        live["host"] = "red"
        self.assertEqual(live.done, (BLUE_HOST, ("set", "host", "red")))
        live.undo()
        self.assertEqual(live["host"], "blue")
        live.undo()
        self.assertEqual(live["host"], "red")
        self.unchanged(live, NothingToUndo, live.undo)

    def test_many_deeds(self):
        live = Live(example(), LOST)
        live += [BLUE_HOST, ("edit", "host", 0)] * 2000
        self.assertEqual(len(live), 4000)
        while len(live):
            live.undo()
        self.assertEqual(live.state, zeros(example()))


class Forks(Tests):
    def test_a_fork_begins_with_the_same(self):
        live = Live(example(), LOST)
        live += [BLUE_HOST, ("fire", "tick")]
        live.use(KEPT)
        fork = live.fork()
        self.assertIsInstance(fork, Live)
        self.assertIsNot(fork, live)
        self.assertIs(fork.graph, live.graph)
        self.assertEqual(told(fork), told(live))

    def test_led_on_beside_each_other(self):
        graph = example()
        live = Live(graph, LOST)
        live.edit("host", 1)
        blue = live.state
        fork = live.fork()
        before = told(live)
        fork["host"] = "red"
        fork.use(STAY)
        fork += [("reload",), ("edit", "host", 0)]
        self.assertEqual(told(live), before)
        before = told(fork)
        live.edit("host", 0)
        live.use(RELOAD)
        red = live.state
        live.fire("tick")
        self.assertEqual(told(fork), before)
        self.assertEqual((live.rule, fork.rule), (RELOAD, STAY))
        self.assertEqual(live.done, (BLUE_HOST, ("edit", "host", 0), ("fire", "tick")))
        self.assertEqual(fork.done, (BLUE_HOST, ("set", "host", "red"), ("reload",), ("edit", "host", 0)))
        self.undone(live, [zeros(graph), blue, red])
        self.assertEqual(told(fork), before)
        for _ in range(3):
            fork.undo()
        self.assertEqual((fork.state, fork.done), (blue, (BLUE_HOST,)))
        self.undone(fork, [zeros(graph)])

    def test_a_fork_of_a_fork(self):
        live = Live(example(), LOST)
        live.edit("host", 1)
        forks = [live.fork().fork(), live.fork()]
        live.undo()
        for fork in forks:
            self.assertEqual((len(fork), fork["host"]), (1, "blue"))
            fork.undo()
            self.assertEqual(fork.state, zeros(example()))

    def test_a_fork_of_a_program_in_a_state_of_its_own(self):
        nothing = ((0, 1, 0), (), (None, None, None), ())
        live = Live(example(), LOST, state=nothing)
        live.reload()
        fork = live.fork()
        fork.undo()
        self.assertEqual((fork.state, live.done), (nothing, (("reload",),)))
        self.assertEqual(live.fork().fork().undo(), ("reload",))


class Graphs(Tests):
    def test_nothing_changes_the_graph(self):
        graph = example()
        live = Live(graph, LOST)
        live += [BLUE_HOST, ("reload",)]
        live.undo()
        live["host"] = "red"
        self.assertEqual(graph, example())
        self.assertEqual(vars(graph), vars(example()))


if __name__ == "__main__":
    unittest.main()

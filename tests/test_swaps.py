"""Edits: putting away, running again and accepting, and what the cleanup rows clean up."""

import unittest

from swappedhot.climbing import climb
from swappedhot.rules import all_rules
from swappedhot.swapping import calls_of, step
from tests.samples import BLUE, PLAIN, RED, SELF, Edits, accepting, after, edition, program, rules, zeros

NEAR = ("near", "again", "kept")
UNLISTEN = (("unlisten",),)
CARRY = (("carry",),)


class PuttingAway(Edits):
    def test_a_chain_in_both_orders(self):
        graph = program(main=(edition(("a",), accepts=accepting("a")),), a=(edition(("b",)),), b=(edition(("c",)),),
                        c=(PLAIN, PLAIN))
        wanted = ((0, 0, 0, 1), (("main", 0, None, (), ()), ("a", 0, None, (), ()), ("b", 0, None, (), ()),
                                 ("c", 1, None, (), ())), (0, 1, 2, 3), ())
        runs = (("run", "a"), ("run", "b"), ("run", "c"), ("accept", "main", "a"))
        self.edits(graph, zeros(graph), ("edit", "c", 1), wanted,
                   (("away", "c"), ("away", "b"), ("away", "a")) + runs, "near")
        self.edits(graph, zeros(graph), ("edit", "c", 1), wanted,
                   (("away", "a"), ("away", "b"), ("away", "c")) + runs, "far")

    def test_a_ring_that_nobody_imports_is_put_away_whole(self):
        graph = program(main=(edition(("a",), accepts=SELF), edition(accepts=SELF)),
                        a=(edition(("b",), (("hold", "h", "b"), ("enter", "b"))), edition(("b",))),
                        b=(edition(("a",), (("hold", "h", "a"), ("enter", "a"))), edition(("a",))))
        state = after(graph, NEAR, ("edit", "main", 1))
        self.assertEqual([each[0] for each in state[1]], ["a", "b", "main"])
        for name, other, sources in (("a", "b", (1, 1, 0)), ("b", "a", (1, 0, 1))):
            wanted = (sources, (("main", 1, None, (), ()),), (0, None, None), ())
            self.edits(graph, state, ("edit", name, 1), wanted, (("away", name), ("away", other)), "near")
            self.edits(graph, state, ("edit", name, 1), wanted, (("away", other), ("away", name)), "far")

    def test_a_ring_that_is_held_lives_on(self):
        graph = program(main=(edition(("a",), (("hold", "h", "a"),), accepting("a")),),
                        a=(edition(("b",), (("hold", "h", "b"),)), edition(("b",))), b=(edition(("a",)),))
        olds = (("main", 0, None, (("h", 1),), ()), ("a", 0, None, (("h", 2),), ()), ("b", 0, None, (), ()))
        wanted = ((0, 1, 0), olds + (("a", 1, None, (), ()), ("b", 0, None, (), ())), (0, 3, 4), ())
        runs = (("run", "a"), ("run", "b"), ("accept", "main", "a"))
        self.edits(graph, zeros(graph), ("edit", "a", 1), wanted, (("away", "a"), ("away", "b")) + runs, "near")
        self.edits(graph, zeros(graph), ("edit", "a", 1), wanted, (("away", "b"), ("away", "a")) + runs, "far")

    def test_what_nobody_runs_stays_without_a_current_instance(self):
        graph = program(main=(edition(("a",), accepts=SELF), edition(accepts=SELF)), a=(PLAIN, PLAIN))
        state = ((1, 0), (("main", 0, None, (), ()), ("a", 0, None, (), ())), (0, 1), ())
        wanted = ((1, 1), (("main", 1, None, (), ()),), (0, None), ())
        self.edits(graph, state, ("edit", "a", 1), wanted, (("away", "a"), ("away", "main"), ("run", "main")), "near")

    def test_old_instances_that_are_held_stay_and_others_are_forgotten(self):
        graph = program(main=(edition(("a",), (("hold", "h", "a"),), accepting("a")),), a=(PLAIN, PLAIN))
        main, old, new = ("main", 0, None, (("h", 1),), ()), ("a", 0, None, (), ()), ("a", 1, None, (), ())
        state = ((0, 1), (main, old, new), (0, 2), ())
        trace = (("away", "a"), ("run", "a"), ("accept", "main", "a"))
        self.edits(graph, zeros(graph), ("edit", "a", 1), state, trace)
        self.edits(graph, state, ("edit", "a", 0), ((0, 0), (main, old, old), (0, 2), ()), trace)

    def test_an_old_instance_that_only_owns_a_listener(self):
        graph = program(main=(edition(("a",), accepts=accepting("a")),),
                        a=(edition((), (("listenheld", "tick", "h"),)), PLAIN))
        listeners = ((1, "tick", "listenheld", "h"),)
        instances = (("main", 0, None, (), ()), ("a", 0, None, (), ()), ("a", 1, None, (), ()))
        wanted = ((0, 1), instances, (0, 2), listeners)
        self.edits(graph, zeros(graph), ("edit", "a", 1), wanted,
                   (("away", "a"), ("run", "a"), ("accept", "main", "a")))

    def test_indexes_are_renumbered(self):
        graph = program(main=(edition(("a", "b"), (("hold", "h", "b"), ("listen", "tick", "a"), ("enter", "b")),
                                      accepting("a")),), a=(PLAIN, PLAIN),
                        b=(edition(("main",), (("listen", "tock", "main"),)),))
        state = ((0, 0, 0), (("main", 0, None, (("h", 2),), ()), ("a", 0, None, (), ()), ("b", 0, None, (), (0,))),
                 (0, 1, 2), ((2, "tock", "listen", "main"), (0, "tick", "listen", "a")))
        self.assertEqual(state, zeros(graph))
        wanted = ((0, 1, 0), (("main", 0, None, (("h", 1),), ()), ("b", 0, None, (), (0,)), ("a", 1, None, (), ())),
                  (0, 2, 1), ((1, "tock", "listen", "main"), (0, "tick", "listen", "a")))
        self.edits(graph, state, ("edit", "a", 1), wanted, (("away", "a"), ("run", "a"), ("accept", "main", "a")))


class Cleaning(Edits):
    """A module a that main accepts; its edition 0 cleans up, and its edition 1 does nothing."""

    def cleaned(self, body, cleanup, *more, main=()):
        """The instances, and the listeners, after the edit of a from a start, near and kept."""
        graph = program(main=(edition(("a", "b"), main, accepting("a")),),
                        a=(edition(("b", "main"), body, (), cleanup), edition(("b", "main")), *more), b=(RED,))
        state = after(graph, NEAR, ("edit", "a", 1))
        return state[1], state[3]

    def test_without_rows_everything_stays(self):
        instances, listeners = self.cleaned((("listen", "tick", "b"), ("enter", "b")), ())
        self.assertEqual(instances, (("main", 0, None, (), ()), ("a", 0, None, (), ()), ("b", 0, "red", (), (1,)),
                                     ("a", 1, None, (), ())))
        self.assertEqual(listeners, ((1, "tick", "listen", "b"),))

    def test_unlisten_removes_all_its_listeners_and_no_others(self):
        body = (("listen", "tick", "b"), ("listenheld", "tock", "h"), ("listen", "tick", "main"), ("enter", "b"))
        main = (("listen", "tick", "a"), ("listenheld", "tock", "h"))
        instances, listeners = self.cleaned(body, UNLISTEN, main=main)
        self.assertEqual(listeners, ((0, "tick", "listen", "a"), (0, "tock", "listenheld", "h")))
        self.assertEqual(instances[2], ("b", 0, "red", (), (1,)))
        instances, listeners = self.cleaned(body[:3], UNLISTEN, main=main)
        self.assertEqual(instances, (("main", 0, None, (), ()), ("b", 0, "red", (), ()), ("a", 1, None, (), ())))

    def test_unlisten_without_listeners(self):
        fresh = (("main", 0, None, (), ()), ("b", 0, "red", (), ()), ("a", 1, None, (), ()))
        self.assertEqual(self.cleaned((), UNLISTEN), (fresh, ()))
        self.assertEqual(self.cleaned((), UNLISTEN * 2, main=(("listen", "tick", "a"),)),
                         (fresh, ((0, "tick", "listen", "a"),)))

    def test_unlisten_leaves_the_listeners_of_older_runs(self):
        graph = program(main=(edition(("a",), accepts=accepting("a")),),
                        a=(edition((), (("listenheld", "tick", "h"),)),
                           edition((), (("listenheld", "tock", "h"),), (), UNLISTEN)))
        state = after(graph, NEAR, ("edit", "a", 1), ("edit", "a", 0))
        self.assertEqual(state[1], (("main", 0, None, (), ()),) + (("a", 0, None, (), ()),) * 2)
        self.assertEqual(state[3], ((1, "tick", "listenheld", "h"), (2, "tick", "listenheld", "h")))

    def test_leave_removes_all_its_entries_and_no_others(self):
        body = (("enter", "b"), ("enter", "main"), ("enter", "b"))
        instances, _ = self.cleaned(body, (("leave", "b"),), main=(("enter", "b"),))
        self.assertEqual(instances, (("main", 0, None, (), (1,)), ("a", 0, None, (), ()), ("b", 0, "red", (), (0,)),
                                     ("a", 1, None, (), ())))
        instances, _ = self.cleaned(body, (("leave", "b"), ("leave", "main")), main=(("enter", "b"),))
        self.assertEqual(instances, (("main", 0, None, (), ()), ("b", 0, "red", (), (0,)), ("a", 1, None, (), ())))

    def test_leave_without_entries(self):
        instances, _ = self.cleaned((("enter", "main"),), (("leave", "b"), ("leave", "b")))
        self.assertEqual(instances, (("main", 0, None, (), (1,)), ("a", 0, None, (), ()), ("b", 0, "red", (), ()),
                                     ("a", 1, None, (), ())))

    def test_leave_keeps_the_order_of_the_others(self):
        graph = program(main=(edition(("a", "b"), accepts=accepting("a")),),
                        a=(edition(("b",), (), (), (("leave", "b"),)), edition(("b",))), b=(PLAIN,))
        state = ((0, 0, 0), (("main", 0, None, (), ()), ("a", 0, None, (), ()), ("b", 0, None, (), (1, 0, 1, 2, 0, 1))),
                 (0, 1, 2), ())
        wanted = ((0, 1, 0), (("main", 0, None, (), ()), ("b", 0, None, (), (0, 1, 0)), ("a", 1, None, (), ())),
                  (0, 2, 1), ())
        self.edits(graph, state, ("edit", "a", 1), wanted, (("away", "a"), ("run", "a"), ("accept", "main", "a")))

    def test_leave_reaches_only_the_current_instance(self):
        graph = program(main=(edition(("a", "b"), accepts=accepting("a")),),
                        a=(edition(("b",), (), (), (("leave", "b"),)), edition(("b",))), b=(PLAIN,))
        main, a = ("main", 0, None, (("h", 2),), ()), ("a", 0, None, (), ())
        state = ((0, 0, 0), (main, a, ("b", 0, None, (), (1,)), ("b", 0, None, (), (1, 1))), (0, 1, 3), ())
        wanted = ((0, 1, 0), (main, a, ("b", 0, None, (), (1,)), ("b", 0, None, (), ()), ("a", 1, None, (), ())),
                  (0, 4, 3), ())
        self.edits(graph, state, ("edit", "a", 1), wanted, (("away", "a"), ("run", "a"), ("accept", "main", "a")))

    def test_leave_removes_only_the_entries_of_this_very_instance(self):
        graph = program(main=(edition(("a", "b"), accepts=accepting("a")),),
                        a=(edition(("b",), (), (), (("leave", "b"),)), edition(("b",))), b=(PLAIN,))
        main, a = ("main", 0, None, (), ()), ("a", 0, None, (), ())
        state = ((0, 0, 0), (main, a, a, ("b", 0, None, (), (1, 2))), (0, 2, 3), ())
        wanted = ((0, 1, 0), (main, a, ("b", 0, None, (), (1,)), ("a", 1, None, (), ())), (0, 3, 2), ())
        self.edits(graph, state, ("edit", "a", 1), wanted, (("away", "a"), ("run", "a"), ("accept", "main", "a")))

    def test_leave_of_a_module_that_has_been_put_away(self):
        graph = program(main=(edition(("a", "b"), (("hold", "h", "b"),), accepting("a", "b")),),
                        a=(edition(("b",), (("enter", "b"),), (), (("leave", "b"),)),), b=(PLAIN, PLAIN))
        for order, old_entries in (("near", (1,)), ("far", ())):
            state = step(graph, (order, "stay", "kept"), zeros(graph), ("edit", "b", 1)).state
            olds = [each for each in state[1] if each[0] == "b" and each[1] == 0]
            self.assertEqual([each[4] for each in olds], [old_entries])

    def test_leave_of_a_module_that_never_had_a_current_instance(self):
        graph = program(main=(edition(("a",), accepts=accepting("a")),),
                        a=(edition(("b",), (), (), (("leave", "b"), ("unlisten",))), PLAIN), b=(PLAIN,))
        state = ((0, 0, 0), (("main", 0, None, (), ()), ("a", 0, None, (), ())), (0, 1, None),
                 ((1, "tick", "listen", "b"),))
        wanted = ((0, 1, 0), (("main", 0, None, (), ()), ("a", 1, None, (), ())), (0, 1, None), ())
        self.edits(graph, state, ("edit", "a", 1), wanted, (("away", "a"), ("run", "a"), ("accept", "main", "a")))

    def test_the_rows_of_the_edition_that_goes(self):
        graph = program(main=(edition(("a",), accepts=accepting("a")),),
                        a=(edition((), (("listenheld", "tick", "h"),)),
                           edition((), (("listenheld", "tick", "h"),), (), UNLISTEN)))
        self.assertEqual(len(after(graph, NEAR, ("edit", "a", 1))[3]), 2)
        self.assertEqual(len(after(graph, NEAR, ("edit", "a", 1), ("edit", "a", 0))[3]), 2)
        behind = ((0, 0), (("main", 0, None, (), ()), ("a", 1, None, (), ())), (0, 1),
                  ((1, "tick", "listenheld", "h"),))
        self.assertEqual(step(graph, NEAR, behind, ("edit", "a", 1)).state,
                         ((0, 1), behind[1], (0, 1), ((1, "tick", "listenheld", "h"),)))

    def test_modules_that_are_named_like_rows(self):
        for name, other in (("a", "unlisten"), ("a", "carry"), ("unlisten", "leave"), ("carry", "a")):
            body = (("cell", "red"), ("enter", other), ("listen", "tick", other))
            gone = edition((other,), body, (), (("leave", other),))
            modules = {"main": (edition((name,), accepts=accepting(name)),), name: (gone, RED), other: (PLAIN,)}
            graph = program(**modules)
            main, old = ("main", 0, None, (), ()), (name, 0, "blue", (), ())
            wanted = ((0, 1, 0), (main, old, (other, 0, None, (), ()), (name, 1, "red", (), ())), (0, 3, 2),
                      ((1, "tick", "listen", other),))
            self.edits(graph, after(graph, NEAR, ("set", name, "blue")), ("edit", name, 1), wanted,
                       (("away", name), ("run", name), ("accept", "main", name)))

    def test_all_rows_of_one_module(self):
        body = (("cell", "blue"), ("listen", "tick", "b"), ("enter", "b"), ("enter", "main"))
        cleanup = (("carry",), ("leave", "main"), ("unlisten",), ("leave", "b"))
        self.assertEqual(self.cleaned(body, cleanup),
                         ((("main", 0, None, (), ()), ("b", 0, "red", (), ()), ("a", 1, None, (), ())), ()))


class Carrying(Edits):
    def words(self, a, rule=NEAR, deeds=(("set", "a", "blue"), ("edit", "a", 1))):
        """The words in the cells of the living instances of a behind the deeds; its editions are given."""
        graph = program(main=(edition(("a",), accepts=accepting("a")),), a=a)
        return [each[2] for each in after(graph, rule, *deeds)[1] if each[0] == "a"]

    def test_kept_and_lost(self):
        a = (edition((), (("cell", "red"),), (), CARRY), RED)
        for rule in all_rules():
            self.assertEqual(self.words(a, rule), ["blue" if rule[2] == "kept" else "red"], rule)

    def test_without_a_carry_row(self):
        for rule in all_rules():
            self.assertEqual(self.words((edition((), (("cell", "red"),), (), UNLISTEN), RED), rule), ["red"])

    def test_the_carry_row_of_the_edition_that_comes_counts_for_nothing(self):
        self.assertEqual(self.words((RED, edition((), (("cell", "red"),), (), CARRY))), ["red"])

    def test_without_a_cell(self):
        self.assertEqual(self.words((edition((), (), (), CARRY), RED), deeds=[("edit", "a", 1)]), ["red"])
        self.assertEqual(self.words((edition((), (), (), CARRY * 4), BLUE)), ["blue"])

    def test_a_word_that_the_new_edition_has_no_cell_for_is_lost(self):
        a = (edition((), (("cell", "red"),), (), CARRY), edition((), (), (), CARRY))
        self.assertEqual(self.words(a), [None])
        self.assertEqual(self.words(a, deeds=[("set", "a", "blue"), ("edit", "a", 1), ("edit", "a", 0)]), ["red"])

    def test_a_word_that_is_carried_and_not_used_is_lost_at_the_end(self):
        graph = program(main=(edition(("a",), accepts=SELF), edition(accepts=SELF)),
                        a=(edition(("b",), (("cell", "red"),), (), CARRY),), b=(edition(("a",)), edition(("a",))))
        gone = after(graph, NEAR, ("set", "a", "blue"), ("edit", "main", 1), ("edit", "b", 1))
        self.assertEqual(gone, ((1, 0, 1), (("main", 1, None, (), ()),), (0, None, None), ()))
        self.assertEqual(step(graph, NEAR, gone, ("edit", "main", 0)).state[1][1], ("a", 0, "red", (), ()))

    def test_words_are_carried_for_their_own_module(self):
        graph = program(main=(edition(("a", "b"), accepts=accepting("a", "b")),),
                        a=(edition(("b",), (("cell", "red"),), (), CARRY),),
                        b=(edition((), (("cell", "red"),), (), CARRY), edition((), (("cell", "red"),), (), CARRY)))
        for name, words in (("a", ["red", "blue"]), ("b", ["blue", "red"])):
            state = after(graph, NEAR, ("set", name, "blue"), ("edit", "b", 1))
            self.assertEqual([(each[0], each[2]) for each in state[1]],
                             [("main", None)] + list(zip(("b", "a"), words)))

    def test_the_word_of_the_current_instance_is_carried(self):
        graph = program(main=(edition(("a",), accepts=accepting("a")),),
                        a=(edition((), (("cell", "red"),), (), CARRY), RED))
        main, old, new = ("main", 0, None, (("h", 1),), ()), ("a", 0, "red", (), ()), ("a", 0, "blue", (), ())
        state = ((0, 0), (main, old, new), (0, 2), ())
        self.assertEqual(step(graph, NEAR, state, ("edit", "a", 1)).state,
                         ((0, 1), (main, old, ("a", 1, "blue", (), ())), (0, 2), ()))

    def test_modules_that_are_run_again_carry_as_well(self):
        graph = program(main=(edition(("a",), (("cell", "red"),), (), CARRY),), a=(PLAIN, PLAIN))
        for rule in rules("again"):
            state = after(graph, rule, ("set", "main", "blue"), ("edit", "a", 1))
            self.assertEqual(state[1][0][2], "blue" if rule[2] == "kept" else "red")


class RunningAgain(Edits):
    """The modules of own."""

    def test_a_module_that_accepts_itself(self):
        graph = program(main=(edition(("a",), (("hold", "h", "a"),)),), a=(edition(accepts=SELF), BLUE))
        instances = (("main", 0, None, (("h", 1),), ()), ("a", 0, None, (), ()), ("a", 1, "blue", (), ()))
        self.edits(graph, zeros(graph), ("edit", "a", 1), ((0, 1), instances, (0, 2), ()),
                   (("away", "a"), ("run", "a")))

    def test_all_of_own_are_run_in_their_order(self):
        graph = program(main=(edition(("b", "a")),), a=(edition(("c",), accepts=SELF),),
                        b=(edition(("c",), accepts=SELF),), c=(PLAIN, PLAIN))
        wanted = ((0, 0, 0, 1), (("main", 0, None, (), ()), ("a", 0, None, (), ()), ("c", 1, None, (), ()),
                                 ("b", 0, None, (), ())), (0, 1, 3, 2), ())
        runs = (("run", "a"), ("run", "c"), ("run", "b"))
        self.edits(graph, zeros(graph), ("edit", "c", 1), wanted,
                   (("away", "c"), ("away", "a"), ("away", "b")) + runs, "near")
        self.edits(graph, zeros(graph), ("edit", "c", 1), wanted,
                   (("away", "b"), ("away", "a"), ("away", "c")) + runs, "far")

    def test_a_module_that_was_run_as_an_import_is_not_run_twice(self):
        graph = program(main=(edition(("a",)),), a=(edition(("b", "c"), accepts=SELF),),
                        b=(edition(("c",), (("listen", "tick", "c"),), SELF, UNLISTEN),), c=(PLAIN, PLAIN))
        wanted = ((0, 0, 0, 1), (("main", 0, None, (), ()), ("a", 0, None, (), ()), ("b", 0, None, (), ()),
                                 ("c", 1, None, (), ())), (0, 1, 2, 3), ((2, "tick", "listen", "c"),))
        self.edits(graph, zeros(graph), ("edit", "c", 1), wanted,
                   (("away", "c"), ("away", "a"), ("away", "b"), ("run", "a"), ("run", "b"), ("run", "c")), "near")

    def test_new_imports_are_run_and_old_ones_stay(self):
        graph = program(main=(edition(("a",)),), a=(edition(("b",), accepts=SELF), edition(("c",), accepts=SELF)),
                        b=(PLAIN,), c=(RED,))
        wanted = ((0, 1, 0, 0), (("main", 0, None, (), ()), ("b", 0, None, (), ()), ("a", 1, None, (), ()),
                                 ("c", 0, "red", (), ())), (0, 2, 1, 3), ())
        self.edits(graph, zeros(graph), ("edit", "a", 1), wanted, (("away", "a"), ("run", "a"), ("run", "c")))

    def test_own_comes_before_accepting(self):
        graph = program(main=(edition(("a", "b"), accepts=accepting("a")),), a=(edition(("c",)),),
                        b=(edition(("c",), accepts=SELF),), c=(PLAIN, PLAIN))
        wanted = ((0, 0, 0, 1), (("main", 0, None, (), ()), ("b", 0, None, (), ()), ("c", 1, None, (), ()),
                                 ("a", 0, None, (), ())), (0, 3, 1, 2), ())
        self.edits(graph, zeros(graph), ("edit", "c", 1), wanted,
                   (("away", "c"), ("away", "a"), ("away", "b"), ("run", "b"), ("run", "c"), ("run", "a"),
                    ("accept", "main", "a")), "near")


class Accepting(Edits):
    """The accepting pairs."""

    def test_a_module_that_has_been_run_is_accepted_all_the_same(self):
        main = edition(("a", "b"), (), (("b", (("enter", "b"),)), ("a", (("enter", "a"), ("enter", "b")))))
        graph = program(main=(main,), a=(edition(("c",)),), b=(edition(("c", "a")),), c=(edition(), PLAIN))
        wanted = ((0, 0, 0, 1), (("main", 0, None, (), ()), ("a", 0, None, (), (0,)), ("c", 1, None, (), ()),
                                 ("b", 0, None, (), (0,))), (0, 1, 3, 2), ())
        self.edits(graph, zeros(graph), ("edit", "c", 1), wanted,
                   (("away", "c"), ("away", "a"), ("away", "b"), ("run", "a"), ("run", "c"), ("accept", "main", "a"),
                    ("run", "b"), ("accept", "main", "b")), "near")

    def test_several_importers_in_the_order_of_the_graph(self):
        rows = (("enter", "a"),)
        graph = program(b=(edition(("a",), (), (("a", rows),)),), main=(edition(("b", "a"), (), (("a", rows),)),),
                        a=(PLAIN, PLAIN))
        wanted = ((0, 0, 1), (("main", 0, None, (), ()), ("b", 0, None, (), ()), ("a", 1, None, (), (1, 0))),
                  (1, 0, 2), ())
        self.edits(graph, zeros(graph), ("edit", "a", 1), wanted,
                   (("away", "a"), ("run", "a"), ("accept", "b", "a"), ("accept", "main", "a")))

    def test_a_pair_of_which_the_importer_is_outdated_is_left_out(self):
        b = edition(("a", "c"), (), (("a", (("listen", "tick", "a"),)),))
        graph = program(main=(edition(("b",), accepts=accepting("b")),), b=(b,), a=(edition(("c",)),),
                        c=(PLAIN, PLAIN))
        self.assertEqual(climb(graph, zeros(graph), "c"), (("c", "b", "a"), (), (("main", "b"), ("b", "a")), ()))
        wanted = ((0, 0, 0, 1), (("main", 0, None, (), ()), ("b", 0, None, (), ()), ("a", 0, None, (), ()),
                                 ("c", 1, None, (), ())), (0, 1, 2, 3), ())
        self.edits(graph, zeros(graph), ("edit", "c", 1), wanted,
                   (("away", "c"), ("away", "b"), ("away", "a"), ("run", "b"), ("run", "a"), ("run", "c"),
                    ("accept", "main", "b")), "near")

    def test_a_module_that_only_an_outdated_importer_accepts_is_run_by_its_import(self):
        graph = program(main=(edition(("b",), accepts=accepting("b")),), b=(edition(("a", "c"), accepts=accepting("a")),
                                                                           edition(("c",))),
                        a=(edition(("c",)),), c=(PLAIN, PLAIN))
        state = ((0, 1, 0, 0), zeros(graph)[1], (0, 1, 2, 3), ())
        wanted = ((0, 1, 0, 1), (("main", 0, None, (), ()), ("b", 1, None, (), ()), ("c", 1, None, (), ())),
                  (0, 1, None, 2), ())
        self.edits(graph, state, ("edit", "c", 1), wanted,
                   (("away", "c"), ("away", "b"), ("away", "a"), ("run", "b"), ("run", "c"), ("accept", "main", "b")),
                   "near")

    def test_rows_that_enter_hold_and_listen_again(self):
        rows = (("enter", "a"), ("hold", "h", "a"), ("listen", "tick", "a"))
        graph = program(main=(edition(("a",), (("hold", "h", "a"), ("hold", "k", "a")) + rows, (("a", rows),)),),
                        a=(PLAIN, PLAIN))
        state = zeros(graph)
        self.assertEqual(state, ((0, 0), (("main", 0, None, (("h", 1), ("k", 1)), ()), ("a", 0, None, (), (0,))),
                                 (0, 1), ((0, "tick", "listen", "a"),)))
        wanted = ((0, 1), (("main", 0, None, (("h", 2), ("k", 1)), ()), ("a", 0, None, (), (0,)),
                           ("a", 1, None, (), (0,))), (0, 2), ((0, "tick", "listen", "a"),) * 2)
        self.edits(graph, state, ("edit", "a", 1), wanted, (("away", "a"), ("run", "a"), ("accept", "main", "a")))

    def test_rows_that_listen_by_a_slot(self):
        rows = (("listenheld", "tock", "k"), ("hold", "k", "b"))
        graph = program(main=(edition(("a", "b"), (("listen", "tick", "a"),), (("a", rows),)),), a=(PLAIN, PLAIN),
                        b=(PLAIN,))
        wanted = ((0, 1, 0), (("main", 0, None, (("k", 1),), ()), ("b", 0, None, (), ()), ("a", 1, None, (), ())),
                  (0, 2, 1), ((0, "tick", "listen", "a"), (0, "tock", "listenheld", "k")))
        self.edits(graph, zeros(graph), ("edit", "a", 1), wanted,
                   (("away", "a"), ("run", "a"), ("accept", "main", "a")))

    def test_rows_for_a_module_without_a_current_instance(self):
        rows = (("hold", "h", "b"), ("enter", "b"), ("listen", "tick", "b"))
        graph = program(main=(edition(("a", "b"), (("hold", "h", "a"),), (("a", rows),)),), a=(PLAIN, PLAIN),
                        b=(PLAIN,))
        state = ((0, 0, 0), (("main", 0, None, (("h", 1),), ()), ("a", 0, None, (), ())), (0, 1, None), ())
        wanted = ((0, 1, 0), (("main", 0, None, (("h", None),), ()), ("a", 1, None, (), ())), (0, 1, None),
                  ((0, "tick", "listen", "b"),))
        self.edits(graph, state, ("edit", "a", 1), wanted, (("away", "a"), ("run", "a"), ("accept", "main", "a")))

    def test_rows_for_a_module_that_is_run_again_only_later(self):
        rows = (("hold", "h", "b"), ("enter", "b"), ("listenheld", "tick", "h"))
        graph = program(main=(edition(("a", "b"), (), (("a", rows), ("b", (("listen", "tock", "b"),)))),),
                        a=(edition(("c",)),), b=(edition(("c",)),), c=(PLAIN, PLAIN))
        wanted = ((0, 0, 0, 1), (("main", 0, None, (("h", None),), ()), ("a", 0, None, (), ()),
                                 ("c", 1, None, (), ()), ("b", 0, None, (), ())), (0, 1, 3, 2),
                  ((0, "tick", "listenheld", "h"), (0, "tock", "listen", "b")))
        self.edits(graph, zeros(graph), ("edit", "c", 1), wanted,
                   (("away", "c"), ("away", "a"), ("away", "b"), ("run", "a"), ("run", "c"), ("accept", "main", "a"),
                    ("run", "b"), ("accept", "main", "b")), "near")
        self.assertEqual(calls_of(graph, wanted, "tick"), (("main", 0, "", -1, ""),))
        self.assertEqual(calls_of(graph, wanted, "tock"), (("main", 0, "b", 0, ""),))

    def test_the_rows_of_the_current_edition_of_the_importer(self):
        graph = program(main=(edition(("a",), (), (("a", (("enter", "a"),)),)),
                              edition(("a",), (), (("a", (("hold", "h", "a"),)),))), a=(PLAIN, PLAIN))
        state = ((1, 0), (("main", 0, None, (), ()), ("a", 0, None, (), ())), (0, 1), ())
        wanted = ((1, 1), (("main", 0, None, (), ()), ("a", 1, None, (), (0,))), (0, 1), ())
        self.edits(graph, state, ("edit", "a", 1), wanted, (("away", "a"), ("run", "a"), ("accept", "main", "a")))

    def test_the_rows_of_this_very_pair(self):
        accepts = (("self",), ("b", (("hold", "h", "b"),)), ("a", (("hold", "k", "a"),)))
        graph = program(main=(edition(("a", "b"), (), accepts),), a=(PLAIN, PLAIN), b=(PLAIN, PLAIN))
        self.assertEqual(after(graph, NEAR, ("edit", "a", 1))[1][0], ("main", 0, None, (("k", 2),), ()))
        self.assertEqual(after(graph, NEAR, ("edit", "b", 1))[1][0], ("main", 0, None, (("h", 2),), ()))

    def test_an_importer_in_a_ring(self):
        graph = program(main=(edition(("a",), (), (("a", (("enter", "a"),)),)),),
                        a=(edition(("main",), (("enter", "main"),)), edition(("main",), (("hold", "h", "main"),))))
        wanted = ((0, 1), (("main", 0, None, (), (1,)), ("a", 0, None, (), ()), ("a", 1, None, (("h", 0),), (0,))),
                  (0, 2), ())
        self.edits(graph, zeros(graph), ("edit", "a", 1), wanted,
                   (("away", "a"), ("run", "a"), ("accept", "main", "a")))


if __name__ == "__main__":
    unittest.main()

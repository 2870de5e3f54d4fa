"""How far a change of a module climbs, and who imports a module."""

import copy
import unittest

from swappedhot.climbing import climb, importers
from swappedhot.errors import NoModule
from swappedhot.states import is_state
from tests.samples import PLAIN, SELF, accepting, after, any_values, edition, example, program, zeros

NOTHING = ((), (), (), ())
STAY = ("near", "stay", "kept")


class Climbing(unittest.TestCase):
    def climbs(self, graph, name, *wanted, state=None):
        """wanted: outdated, own, accepting and past."""
        found = climb(graph, state or zeros(graph), name)
        self.assertEqual(found, wanted)
        self.assertIsInstance(found, tuple)
        for part in found:
            self.assertIsInstance(part, tuple)

    def test_the_example(self):
        graph = program(main=(edition(("a", "b")),), a=(edition(("c",)),), b=(edition(("c",)),), c=(PLAIN,))
        self.climbs(graph, "c", ("c", "a", "b", "main"), (), (), ("main",))

    def test_a_program_of_one_module(self):
        self.climbs(program(main=(PLAIN,)), "main", ("main",), (), (), ("main",))
        self.climbs(program(main=(edition(accepts=SELF),)), "main", ("main",), ("main",), (), ())

    def test_an_importer_that_accepts(self):
        graph = example()
        self.climbs(graph, "host", ("host",), (), (("main", "host"), ("util", "host")), ())
        self.climbs(graph, "util", ("util", "main"), (), (), ("main",))

    def test_items_that_are_added_meanwhile_are_taken(self):
        graph = program(main=(edition(("a",)),), a=(edition(("b",)),), b=(edition(("c",)),), c=(PLAIN,))
        self.climbs(graph, "c", ("c", "b", "a", "main"), (), (), ("main",))
        self.climbs(graph, "b", ("b", "a", "main"), (), (), ("main",))

    def test_breadth_comes_before_depth(self):
        graph = program(main=(edition(("a", "b")),), a=(edition(("c",)),), b=(edition(("c", "a")),), c=(PLAIN,))
        self.climbs(graph, "c", ("c", "a", "b", "main"), (), (), ("main",))
        graph = program(main=(edition(("a", "c")),), a=(edition(("b",)),), b=(edition(("c",)),), c=(PLAIN,))
        self.climbs(graph, "c", ("c", "main", "b", "a"), (), (), ("main",))

    def test_two_ways_to_one_module_that_accepts_both(self):
        graph = program(main=(edition(("a", "b"), accepts=accepting("b", "a")),),
                        b=(edition(("c",)),), a=(edition(("c",)),), c=(PLAIN,))
        self.climbs(graph, "c", ("c", "b", "a"), (), (("main", "b"), ("main", "a")), ())

    def test_a_module_that_accepts_itself(self):
        graph = program(main=(edition(("a",)),), a=(edition(("b",), accepts=SELF),), b=(PLAIN,))
        self.climbs(graph, "a", ("a",), ("a",), (), ())
        self.climbs(graph, "b", ("b", "a"), ("a",), (), ())

    def test_a_module_that_accepts_itself_does_not_ask_its_importers(self):
        graph = program(main=(edition(("a",), accepts=accepting("a")),), a=(edition(accepts=SELF),))
        self.climbs(graph, "a", ("a",), ("a",), (), ())

    def test_a_top_that_accepts_itself(self):
        graph = program(main=(edition(("a",), accepts=SELF),), a=(PLAIN,))
        self.climbs(graph, "a", ("a", "main"), ("main",), (), ())

    def test_the_importers_of_the_top_are_not_asked(self):
        graph = program(main=(edition(("a",)),), a=(edition(("main",)),))
        self.climbs(graph, "main", ("main",), (), (), ("main",))
        self.climbs(graph, "a", ("a", "main"), (), (), ("main",))
        graph = program(main=(edition(("a",)),), a=(edition(("main",), accepts=accepting("main")),))
        self.climbs(graph, "main", ("main",), (), (), ("main",))

    def test_a_ring_below_the_top(self):
        graph = program(main=(edition(("a",)),), a=(edition(("b",)),), b=(edition(("a",)),))
        self.climbs(graph, "b", ("b", "a", "main"), (), (), ("main",))
        self.climbs(graph, "a", ("a", "main", "b"), (), (), ("main",))

    def test_a_ring_that_accepts_within_itself(self):
        graph = program(main=(edition(("a",), accepts=accepting("a")),),
                        a=(edition(("b",), accepts=accepting("b")),), b=(edition(("a",), accepts=accepting("a")),))
        self.climbs(graph, "a", ("a",), (), (("main", "a"), ("b", "a")), ())
        self.climbs(graph, "b", ("b",), (), (("a", "b"),), ())

    def test_a_ring_that_nobody_else_imports(self):
        graph = program(main=(edition(("a",), accepts=SELF), edition(accepts=SELF)),
                        a=(edition(("b",)),), b=(edition(("a",)),))
        state = after(graph, STAY, ("edit", "main", 1))
        self.climbs(graph, "a", ("a", "b"), (), (), (), state=state)
        self.climbs(graph, "b", ("b", "a"), (), (), (), state=state)

    def test_a_module_that_nobody_imports_any_more(self):
        graph = program(main=(edition(("a",), accepts=SELF), edition(accepts=SELF)), a=(edition(("b",)),), b=(PLAIN,))
        state = after(graph, STAY, ("edit", "main", 1))
        self.climbs(graph, "a", ("a",), (), (), ("a",), state=state)
        self.climbs(graph, "b", ("b", "a"), (), (), ("a",), state=state)

    def test_an_importer_that_accepts_one_import_and_is_outdated_by_another(self):
        for first, other in (("a", "b"), ("b", "a")):
            graph = program(**{"main": (edition(("a", "b"), accepts=accepting("a")),),
                               first: (edition(("c",)),), other: (edition(("c",)),), "c": (PLAIN,)})
            self.climbs(graph, "c", ("c", first, other, "main"), (), (("main", "a"),), ("main",))

    def test_own_and_past_and_accepting_together(self):
        graph = program(main=(edition(("a", "b")),), a=(edition(("c",), accepts=SELF),),
                        b=(edition(("c",), accepts=accepting("c")),), c=(PLAIN,))
        self.climbs(graph, "c", ("c", "a"), ("a",), (("b", "c"),), ())
        graph = program(main=(edition(("a", "b", "c")),), a=(edition(("c",), accepts=SELF),),
                        b=(edition(("c",), accepts=accepting("c")),), c=(PLAIN,))
        self.climbs(graph, "c", ("c", "main", "a"), ("a",), (("b", "c"),), ("main",))

    def test_accepting_another_import_is_not_accepting(self):
        graph = program(main=(edition(("a", "b"), accepts=accepting("b")),), a=(PLAIN,), b=(PLAIN,))
        self.climbs(graph, "a", ("a", "main"), (), (), ("main",))

    def test_rows_make_no_difference(self):
        rows = (("enter", "a"), ("hold", "h", "a"))
        graph = program(main=(edition(("a",), accepts=(("a", rows),)),), a=(PLAIN,))
        self.climbs(graph, "a", ("a",), (), (("main", "a"),), ())

    def test_a_module_without_a_current_instance(self):
        graph = program(main=(PLAIN, edition(("a",))), a=(edition(accepts=SELF),))
        self.climbs(graph, "a", *NOTHING)
        self.climbs(graph, "a", *NOTHING, state=((1, 0), (("main", 1, None, (), ()),), (0, None), ()))
        self.climbs(graph, "main", *NOTHING, state=((0, 0), (), (None, None), ()))

    def test_an_instance_that_is_not_current_counts_for_nothing(self):
        graph = program(main=(edition(("a",)),), a=(PLAIN,))
        state = ((0, 0), (("main", 0, None, (), ()), ("a", 0, None, (), ())), (None, 1),
                 ((0, "tick", "listen", "a"),))
        self.assertTrue(is_state(graph, state))
        self.climbs(graph, "a", ("a",), (), (), ("a",), state=state)
        state = ((0, 0), (("main", 0, None, (("h", 1),), ()), ("a", 0, None, (), ())), (0, None), ())
        self.climbs(graph, "a", *NOTHING, state=state)

    def test_only_the_editions_of_the_current_instances_decide(self):
        graph = program(main=(edition(("a",)), edition(("a",), accepts=accepting("a")), PLAIN), a=(PLAIN,))
        for number in (1, 2):
            state = after(graph, STAY, ("edit", "main", number))
            self.assertEqual(state[0], (number, 0))
            self.climbs(graph, "a", ("a", "main"), (), (), ("main",), state=state)
        old = ((0, 0), (("main", 1, None, (), ()), ("a", 0, None, (), ())), (0, 1), ())
        self.climbs(graph, "a", ("a",), (), (("main", "a"),), (), state=old)

    def test_no_other_edition_decides_for_the_module_itself(self):
        graph = program(main=(edition(("a",)),), a=(PLAIN, edition(accepts=SELF)))
        self.climbs(graph, "a", ("a", "main"), (), (), ("main",))
        self.climbs(graph, "a", ("a", "main"), (), (), ("main",), state=after(graph, STAY, ("edit", "a", 1)))

    def test_nothing_is_modified(self):
        graph, state = example(), zeros(example())
        before = copy.deepcopy(state)
        self.assertEqual(climb(graph, state, "util"), climb(graph, state, "util"))
        self.assertEqual((state, graph == example()), (before, True))


class Importers(unittest.TestCase):
    def imports(self, graph, state, name, wanted):
        found = importers(graph, state, name)
        self.assertEqual(found, wanted)
        self.assertIsInstance(found, tuple)

    def test_in_the_order_of_the_graph(self):
        graph = program(b=(edition(("c",)),), main=(edition(("a", "b", "c")),), c=(PLAIN,), a=(edition(("c",)),))
        self.imports(graph, zeros(graph), "c", ("b", "main", "a"))
        self.imports(graph, zeros(graph), "a", ("main",))
        self.imports(graph, zeros(graph), "main", ())

    def test_whether_they_accept_makes_no_difference(self):
        self.imports(example(), zeros(example()), "host", ("main", "util"))
        self.imports(example(), zeros(example()), "util", ("main",))

    def test_the_importers_of_the_top(self):
        graph = program(main=(edition(("a",)),), a=(edition(("main",)),))
        self.imports(graph, zeros(graph), "main", ("a",))

    def test_only_modules_with_a_current_instance(self):
        graph = program(main=(PLAIN,), a=(edition(("main",)),))
        self.imports(graph, zeros(graph), "main", ())
        state = ((0, 0), (("main", 0, None, (), ()), ("a", 0, None, (), ())), (0, None), ((1, "tick", "listen", "a"),))
        self.imports(graph, state, "main", ())

    def test_a_module_without_a_current_instance_may_have_importers(self):
        graph = program(main=(edition(("a",)),), a=(PLAIN,))
        self.imports(graph, ((0, 0), (("main", 0, None, (), ()),), (0, None), ()), "a", ("main",))

    def test_the_edition_of_the_current_instance(self):
        graph = program(main=(edition(("a",)), PLAIN), a=(PLAIN,))
        self.imports(graph, after(graph, STAY, ("edit", "main", 1)), "a", ("main",))
        self.imports(graph, ((0, 0), (("main", 1, None, (), ()),), (0, None), ()), "a", ())


class NoModules(unittest.TestCase):
    def test_any_value_that_names_no_module(self):
        graph = example()
        values = [value for value in any_values() if value != "main"]
        for value in values + ["self", "mains", "hos", "tick", "red", ("host",), ["host"], 0, {"host": 1}, True]:
            for call in (climb, importers):
                before = copy.deepcopy(value)
                with self.assertRaises(NoModule) as caught:
                    call(graph, zeros(graph), value)
                self.assertEqual(repr(caught.exception.name), repr(before))
                self.assertEqual(repr(value), repr(before))

    def test_the_error_keeps_no_list(self):
        value = ["host"]
        with self.assertRaises(NoModule) as caught:
            climb(example(), zeros(example()), value)
        value.append("util")
        self.assertEqual(caught.exception.name, ["host"])


if __name__ == "__main__":
    unittest.main()

"""Repairs: choices, graphs with added accepts, and the least sets of choices that repair a graph."""

import copy
import random
import unittest

from swappedhot.books import Book
from swappedhot.counting import count_runs
from swappedhot.errors import BadChoice, BadKinds, BadLimit, InvalidRule, TooManyStates
from swappedhot.graphs import Graph
from swappedhot.healing import choices, least_accepts, with_accepts
from swappedhot.judging import KINDS
from swappedhot.rules import all_rules
from swappedhot.states import is_state
from swappedhot.verdicts import check_closed, check_run, verdict
from tests import drawn, second, slow
from tests.samples import (PLAIN, RED, SELF, accepting, any_values, celled, edition, example, fault_values,
                           kinds_values, limit_values, program, zeros)
from tests.slow import SlowBook

LOST = ("near", "again", "lost")
RELOAD = ("near", "reload", "lost")
STAY = ("near", "stay", "lost")


def apart():
    """Three modules, each of which is reloaded unless it accepts itself or main accepts it."""
    return program(main=(edition(("a", "b", "c")),), a=(PLAIN, PLAIN), b=(PLAIN, PLAIN), c=(PLAIN, PLAIN))


class Choices(unittest.TestCase):
    def test_the_example(self):
        self.assertEqual(choices(example()), [("main", "main"), ("main", "host"), ("main", "util"), ("host", "host"),
                                              ("util", "util"), ("util", "host")])

    def test_every_edition_counts_and_the_order_is_that_of_the_graph(self):
        graph = program(top="b", a=(PLAIN, edition(("c", "b")), edition(("b",))), b=(edition(("c",)), edition(("a",))),
                        c=(PLAIN,))
        self.assertEqual(choices(graph), [("a", "a"), ("a", "b"), ("a", "c"), ("b", "b"), ("b", "a"), ("b", "c"),
                                          ("c", "c")])

    def test_drawn_graphs(self):
        chance = random.Random(70)
        for _ in range(100):
            graph = drawn.draw_graph(chance)
            found = choices(graph)
            self.assertEqual(found, slow.choices(graph))
            found.clear()
            self.assertEqual(choices(graph), slow.choices(graph))


class Added(unittest.TestCase):
    def test_each_choice(self):
        graph = program(main=(edition(("a", "b"), (("enter", "a"),), (("a", (("enter", "b"),)),), (("carry",),)),
                              edition(("b",)), edition(("a",), (), SELF)), a=(RED, PLAIN), b=(PLAIN,))
        wanted = {
            ("main", "main"): ((("a", (("enter", "b"),)), ("self",)), SELF, SELF),
            ("main", "a"): ((("a", (("enter", "b"),)),), (), SELF + (("a", ()),)),
            ("main", "b"): ((("a", (("enter", "b"),)), ("b", ())), (("b", ()),), SELF),
            ("a", "a"): (SELF, SELF),
            ("b", "b"): (SELF,),
        }
        self.assertEqual(choices(graph), list(wanted))
        for choice, accepts in wanted.items():
            for added in ((choice,), [choice], (choice, choice)):
                made = with_accepts(graph, added)
                self.assertIsInstance(made, Graph)
                self.assertEqual((made.words, made.events, made.top, made.most, made.names),
                                 (graph.words, graph.events, graph.top, graph.most, graph.names))
                for name in graph.names:
                    for number, (old, new) in enumerate(zip(graph.editions(name), made.editions(name))):
                        self.assertEqual((new[0], new[1], new[3]), (old[0], old[1], old[3]))
                        self.assertEqual(new[2], accepts[number] if name == choice[0] else old[2])

    def test_in_order(self):
        graph = example()
        self.assertEqual(with_accepts(graph, ()), graph)
        self.assertEqual(with_accepts(graph, []), graph)
        made = with_accepts(graph, (("main", "util"), ("main", "main"), ("host", "host"), ("main", "util")))
        self.assertEqual(made.editions("main")[0][2], (("host", ()), ("util", ()), ("self",)))
        self.assertEqual([each[2] for each in made.editions("host")], [SELF, SELF])
        self.assertEqual(made.editions("util"), graph.editions("util"))
        made = with_accepts(graph, [("main", "main"), ("main", "util")])
        self.assertEqual(made.editions("main")[0][2], (("host", ()), ("self",), ("util", ())))

    def test_most_stays(self):
        for most in (3, 7):
            graph = program(most=most, main=(edition(("a",)),), a=(PLAIN,))
            self.assertEqual(with_accepts(graph, [("main", "a")]).most, most)

    def test_an_edition_that_accepts_already(self):
        graph = program(main=(edition(("a",), (), (("a", (("enter", "a"),)), ("self",))),), a=(PLAIN,))
        self.assertEqual(with_accepts(graph, [("main", "a"), ("main", "main")]), graph)

    def test_a_list_that_is_changed_afterwards(self):
        graph = example()
        added = [("main", "main"), ("util", "util")]
        made = with_accepts(graph, added)
        wanted = with_accepts(graph, tuple(added))
        added.clear()
        added.append("more")
        self.assertEqual(made, wanted)
        self.assertNotEqual(made, graph)
        self.assertEqual(graph, example())

    def test_drawn_graphs(self):
        chance = random.Random(71)
        for _ in range(150):
            graph = drawn.draw_graph(chance)
            known = choices(graph)
            added = [chance.choice(known) for _ in range(chance.randint(0, 6))]
            made = with_accepts(graph, added)
            self.assertEqual(made.modules, slow.accepting(graph, added))
            self.assertEqual(made, Graph(graph.words, graph.events, made.modules, graph.top, most=graph.most))
            self.assertEqual(choices(made), known)

    def test_wrong_items_at_each_place(self):
        graph = example()
        good = [("main", "main"), ("util", "host"), ("main", "main")]
        wrong = any_values() + [("main", "nobody"), ("nobody", "nobody"), ("host", "main"), ("host", "util"),
                                ["main", "main"], ("main",), ("main", "main", "main"), ("self", "self"),
                                ("main", ("main",)), ("Main", "Main"), ("util", "main")]
        for value in wrong:
            for index in range(4):
                for items in (good[:index] + [value] + good[index:], good[:index] + [value, value, None]):
                    for added in (items, tuple(items)):
                        before = copy.deepcopy(added)
                        with self.assertRaises(BadChoice) as caught:
                            with_accepts(graph, added)
                        self.assertEqual(caught.exception.index, index)
                        self.assertEqual(repr(added), repr(before))


class ByHand(unittest.TestCase):
    def test_no_repair_is_needed(self):
        self.assertEqual(least_accepts(example(), LOST, ("reloaded",), ()), [()])
        self.assertEqual(least_accepts(example(), LOST, (), tuple(choices(example()))), [()])
        self.assertEqual(least_accepts(apart(), LOST, ("behind", "reloaded"), (("a", "a"),)), [()])

    def test_repairs_of_one_item(self):
        graph = program(main=(edition(("a",)),), a=(PLAIN, PLAIN))
        chosen = (("main", "main"), ("a", "a"), ("main", "a"))
        self.assertEqual(least_accepts(graph, RELOAD, ("reloaded",), chosen),
                         [(("main", "main"),), (("a", "a"),), (("main", "a"),)])
        self.assertEqual(least_accepts(graph, RELOAD, ("reloaded",), chosen[::-1]),
                         [(("main", "a"),), (("a", "a"),), (("main", "main"),)])
        self.assertEqual(least_accepts(graph, RELOAD, ("reloaded",), chosen[1:2]), [(("a", "a"),)])
        self.assertEqual(least_accepts(graph, RELOAD, ("reloaded",), ()), [])
        self.assertEqual(least_accepts(graph, STAY, ("behind",), chosen[1:]), [(("a", "a"),), (("main", "a"),)])

    def test_repairs_of_two_and_three_items(self):
        graph = apart()
        selves = (("a", "a"), ("b", "b"), ("c", "c"))
        self.assertEqual(least_accepts(graph, RELOAD, ("reloaded",), selves), [selves])
        self.assertEqual(least_accepts(graph, RELOAD, ("reloaded",), selves[::-1]), [selves[::-1]])
        self.assertEqual(least_accepts(graph, RELOAD, ("reloaded",), selves[:2]), [])
        both = selves + (("main", "c"), ("main", "a"))
        a, b, c, main_c, main_a = both
        self.assertEqual(least_accepts(graph, RELOAD, ("reloaded",), both),
                         [(a, b, c), (a, b, main_c), (b, c, main_a), (b, main_c, main_a)])
        graph = with_accepts(graph, [c])
        self.assertEqual(least_accepts(graph, RELOAD, ("reloaded",), both), [(a, b), (b, main_a)])
        self.assertEqual(least_accepts(graph, RELOAD, ("reloaded",), both + (("main", "main"),)), [(("main", "main"),)])
        self.assertEqual(least_accepts(graph, RELOAD, ("reloaded",), (c, main_c, a, b)), [(a, b)])

    def test_four_items_are_too_many(self):
        graph = program(top="d", d=(edition(("a", "b", "c")), edition(("a", "b", "c"))), a=(PLAIN, PLAIN),
                        b=(PLAIN, PLAIN), c=(PLAIN, PLAIN))
        chosen = (("a", "a"), ("b", "b"), ("c", "c"), ("d", "a"), ("d", "b"), ("d", "c"))
        self.assertEqual(least_accepts(graph, RELOAD, ("reloaded",), chosen), [])
        self.assertEqual(least_accepts(graph, RELOAD, ("reloaded",), chosen[:5] + (("d", "d"),)), [(("d", "d"),)])

    def test_four_items_would_repair(self):
        graph = program(main=(edition(("a", "b", "c")),), a=(PLAIN, PLAIN), b=(edition(("a", "c")),), c=(PLAIN, PLAIN))
        chosen = (("main", "a"), ("b", "a"), ("main", "c"), ("b", "c"))
        self.assertNotIn(("reloaded", ""), Book(with_accepts(graph, chosen), RELOAD).found())
        self.assertEqual(least_accepts(graph, RELOAD, ("reloaded",), chosen), [])
        self.assertEqual(least_accepts(with_accepts(graph, chosen[3:]), RELOAD, ("reloaded",), chosen), [chosen[:3]])
        self.assertEqual(least_accepts(graph, RELOAD, ("reloaded",), chosen + (("b", "b"),)),
                         [(("main", "a"), ("main", "c"), ("b", "b"))])

    def test_sets_matter(self):
        graph = program(main=(edition(("a",)),), a=(RED, RED))
        chosen = (("main", "a"), ("a", "a"))
        self.assertEqual(least_accepts(graph, RELOAD, ("dropped",), chosen, sets=False), [()])
        self.assertEqual(least_accepts(graph, RELOAD, ("dropped",), chosen, sets=True), [])
        self.assertEqual(least_accepts(graph, RELOAD, ("dropped",), chosen), [])

    def test_a_new_list_each_time(self):
        least_accepts(example(), LOST, (), ()).clear()
        self.assertEqual(least_accepts(example(), LOST, (), ()), [()])


class Compared(unittest.TestCase):
    def test_drawn_graphs(self):
        chance = random.Random(72)
        sizes = []
        for graph, rule, sets in drawn.books(73, 45, most=14):
            known = choices(graph)
            chosen = tuple(chance.sample(known, min(len(known), chance.choice((2, 4, 6)))))
            slow_books = {}

            def book_of(added):
                if added not in slow_books:
                    made = Graph(graph.words, graph.events, slow.accepting(graph, added), graph.top, most=graph.most)
                    slow_books[added] = SlowBook(made, rule, sets)
                return slow_books[added]

            if self.too_large(graph, rule, sets, chosen):
                continue
            found = book_of(()).found()
            for kinds in [tuple(dict.fromkeys([kind for kind, _ in found]))] + [(kind,) for kind, _ in found[:2]]:
                wanted = slow.least_accepts(book_of, kinds, chosen)
                told = (graph.modules, graph.top, graph.most, rule, sets, kinds, chosen)
                self.assertEqual(least_accepts(graph, rule, kinds, chosen, sets=sets), wanted, told)
                sizes.append(len(wanted[0]) if wanted else None)
        self.assertGreaterEqual(len(set(sizes)), 3)

    def too_large(self, graph, rule, sets, chosen):
        try:
            least_accepts(graph, rule, KINDS[:1], chosen, sets=sets, limit=60)
            least_accepts(graph, rule, KINDS, chosen, sets=sets, limit=60)
        except TooManyStates:
            return True
        return False

    def test_what_holds_for_graphs_goes_on_to_hold(self):
        """Steps, books, counts and verdicts of graphs with added accepts."""
        chance = random.Random(74)
        for graph, rule, sets in drawn.books(75, 40, most=25):
            made = with_accepts(graph, chance.sample(choices(graph), chance.randint(1, len(choices(graph)))))
            try:
                book = Book(made, rule, sets=sets, limit=40)
            except TooManyStates:
                continue
            wanted = SlowBook(made, rule, sets)
            self.assertEqual((book.states(), [edge for edge in book.edges()]), (wanted.states, wanted.edges()))
            self.assertEqual(count_runs(book, ("elder", "lacking"), 2), wanted.count(("elder", "lacking"), 2))
            fault = chance.choice(fault_values(made)[0])
            kind, paper = verdict(made, rule, fault, sets=sets)
            run = wanted.least_run(fault)
            self.assertEqual(paper, tuple(wanted.states) if run is None else tuple(run))
            if kind == "run":
                self.assertTrue(check_run(made, rule, fault, paper))
            else:
                self.assertTrue(check_closed(made, rule, fault, paper, sets=sets))
            for state in book.states():
                self.assertTrue(is_state(made, state))
                for deed in drawn.deeds_of(made):
                    told = second.step(made, rule, state, deed)
                    self.assertEqual(slow.after(made, rule, state, deed), state if isinstance(told, str) else told[0])


class Limits(unittest.TestCase):
    def states(self, graph, rule, *added):
        return len(Book(with_accepts(graph, added), rule))

    def test_every_set_of_the_least_size_is_examined(self):
        """The first set repairs, but the book of the second one is larger."""
        graph = program(main=(edition(("a",), (("cell", "red"), ("hold", "h", "a"))),), a=(PLAIN, PLAIN))
        one, other = ("main", "main"), ("main", "a")
        many = [self.states(graph, RELOAD, *added) for added in ((), (one,), (other,), (one, other))]
        self.assertLess(max(many[:2]), many[2])
        wanted = least_accepts(graph, RELOAD, ("reloaded",), (one, other))
        self.assertEqual(wanted, [(one,), (other,)])
        self.assertEqual(least_accepts(graph, RELOAD, ("reloaded",), (one, other), limit=many[2]), wanted)
        for chosen in ((one, other), (other, one)):
            with self.assertRaises(TooManyStates) as caught:
                least_accepts(graph, RELOAD, ("reloaded",), chosen, limit=many[2] - 1)
            self.assertEqual(caught.exception.limit, many[2] - 1)
        self.assertEqual(least_accepts(graph, RELOAD, ("reloaded",), (one,), limit=many[1]), [(one,)])

    def test_sets_of_a_larger_size_are_not_examined(self):
        graph = program(main=(edition(("a",), (("cell", "red"), ("hold", "h", "a"))),), a=(PLAIN, PLAIN))
        many = self.states(graph, RELOAD)
        self.assertGreater(self.states(graph, RELOAD, ("main", "a")), many)
        self.assertEqual(least_accepts(graph, RELOAD, ("behind",), (("main", "a"),), limit=many), [()])
        with self.assertRaises(TooManyStates):
            least_accepts(graph, RELOAD, ("reloaded",), (("main", "a"),), limit=many)
        with self.assertRaises(TooManyStates) as caught:
            least_accepts(graph, RELOAD, ("behind",), (("main", "a"),), limit=many - 1)
        self.assertEqual(caught.exception.limit, many - 1)
        with self.assertRaises(TooManyStates):
            least_accepts(graph, RELOAD, (), (), limit=many - 1)

    def test_the_limit_if_none_is_named(self):
        self.assertEqual(least_accepts(celled(1, 3, 3, 2), RELOAD, ("behind",), (), sets=False), [()])
        self.assertEqual(len(Book(celled(2, 3, 3), RELOAD, limit=486)), 486)
        self.assertEqual(least_accepts(celled(2, 3, 3), RELOAD, ("behind",), ()), [()])
        with self.assertRaises(TooManyStates) as caught:
            least_accepts(celled(3, 3, 3), RELOAD, ("behind",), ())
        self.assertEqual(caught.exception.limit, 500)
        self.assertEqual(least_accepts(celled(3, 3, 3), RELOAD, ("behind",), (), limit=729), [()])


class Errors(unittest.TestCase):
    def bad_chosen(self):
        six = tuple(choices(example()))
        yield six + six[:1], -1
        yield six + (None,), -1
        yield list(six), -1
        yield [], -1
        for value in any_values():
            if not isinstance(value, tuple):
                yield value, -1
            for index in range(6):
                yield six[:index] + (value,) + six[index + 1:], index
                yield six[:index] + (value, None)[:6 - index], index
        for index in range(1, 6):
            yield six[:index] + (six[index - 1],), index
            yield six[:index] + (six[0],) + six[index + 1:], index
            yield six[:index] + (list(six[index]),), index
            yield six[:index] + (("host", "main"),), index

    def test_chosen(self):
        for value, index in self.bad_chosen():
            before = copy.deepcopy(value)
            for limit in (500, 0, 1):
                with self.assertRaises(BadChoice) as caught:
                    least_accepts(example(), LOST, ("behind",), value, limit=limit)
                self.assertEqual(caught.exception.index, index, value)
            self.assertEqual(repr(value), repr(before))
        self.assertEqual(len(choices(example())), 6)
        self.assertEqual(least_accepts(example(), LOST, ("behind",), tuple(choices(example()))), [()])

    def test_wrong_rules(self):
        for value in any_values():
            for kinds, chosen, limit in (((), (), 500), ("no", (), 500), ((), "no", 500), ((), (), 0)):
                with self.assertRaises(InvalidRule) as caught:
                    least_accepts(example(), value, kinds, chosen, limit=limit)
                self.assertEqual(caught.exception.path, ())

    def test_wrong_kinds(self):
        for value in kinds_values():
            for chosen, limit in (((), 500), ("no", 500), ((), 0)):
                with self.assertRaises(BadKinds) as caught:
                    least_accepts(example(), LOST, value, chosen, limit=limit)
                self.assertEqual(repr(caught.exception.kinds), repr(value))

    def test_wrong_limits(self):
        for value in limit_values():
            for chosen in ((), tuple(choices(example()))):
                with self.assertRaises(BadLimit) as caught:
                    least_accepts(example(), LOST, ("behind",), chosen, limit=value)
                self.assertEqual(repr(caught.exception.limit), repr(value))

    def test_nothing_is_modified(self):
        graph = example()
        for rule in all_rules():
            least_accepts(graph, rule, ("lacking", "astray"), tuple(choices(graph)))
        self.assertEqual((graph, vars(graph)), (example(), vars(example())))
        self.assertEqual(zeros(graph), zeros(example()))
        self.assertEqual(accepting("host"), graph.editions("main")[0][2])


if __name__ == "__main__":
    unittest.main()

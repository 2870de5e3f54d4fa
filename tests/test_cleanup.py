"""Needless cleanup: places, graphs without a cleanup row, and the rows that do nothing."""

import copy
import random
import unittest

from swappedhot.books import Book
from swappedhot.counting import count_runs
from swappedhot.errors import BadKinds, BadLimit, InvalidRule, NoPlace, TooManyStates
from swappedhot.graphs import Graph
from swappedhot.healing import needless, places, without_cleanup
from swappedhot.judging import KINDS
from swappedhot.rules import all_rules
from swappedhot.verdicts import check_closed, check_run, verdict
from tests import drawn
from tests.samples import (PLAIN, accepting, any_values, celled, edition, example, fault_values, kinds_values, leaving,
                           limit_values, program)
from tests.slow import SlowBook

LOST = ("near", "again", "lost")
KEPT = ("near", "again", "kept")
RELOAD = ("near", "reload", "lost")


def tidy(*rows):
    """main accepts a, which listens, enters and has a cell, and cleans up with these rows."""
    body = (("cell", "red"), ("listen", "tick", "b"), ("enter", "b"))
    a = edition(("b",), body, (), rows)
    return program(main=(edition(("a",), (), accepting("a")),), a=(a, a), b=(PLAIN,))


def removed(graph, place):
    """The graph without the row at the place, in another way than the program makes it."""
    modules = []
    for name, editions in graph.modules:
        made = []
        for number, (imports, body, accepts, cleanup) in enumerate(editions):
            rows = tuple([row for index, row in enumerate(cleanup) if (name, number, index) != place])
            made.append((imports, body, accepts, rows))
        modules.append((name, tuple(made)))
    return Graph(graph.words, graph.events, tuple(modules), graph.top, most=graph.most)


class Places(unittest.TestCase):
    def graph(self):
        carry = ("carry",)
        z = (edition(("a",), (), (), (carry, ("leave", "a"), carry)), PLAIN, edition((), (), (), (carry,)))
        a = (PLAIN, edition((), (), (), (("unlisten",), ("unlisten",), ("carry",), ("carry",))))
        return program(top="z", z=z, a=a, b=(PLAIN,))

    def test_their_order(self):
        wanted = [("z", 0, index) for index in (0, 1, 2)] + [("z", 2, 0)]
        wanted += [("a", 1, index) for index in (0, 1, 2, 3)]
        self.assertEqual(places(self.graph()), wanted)
        self.assertEqual(places(leaving()), [("util", 0, 0)])
        self.assertEqual(places(example()), [])

    def test_a_new_list_each_time(self):
        places(leaving()).clear()
        self.assertEqual(places(leaving()), [("util", 0, 0)])

    def test_without(self):
        graph = self.graph()
        made = without_cleanup(graph, ("z", 0, 1))
        self.assertEqual(made.editions("z")[0], (("a",), (), (), (("carry",), ("carry",))))
        self.assertEqual(made.editions("z")[1:], graph.editions("z")[1:])
        self.assertEqual([made.editions(name) for name in "ab"], [graph.editions(name) for name in "ab"])
        self.assertEqual((made.words, made.events, made.top, made.most, made.names),
                         (graph.words, graph.events, graph.top, graph.most, graph.names))
        self.assertEqual(graph, self.graph())
        for place in places(graph):
            made = without_cleanup(graph, place)
            self.assertIsInstance(made, Graph)
            self.assertEqual(made, removed(graph, place))
            self.assertEqual(len(places(made)), len(places(graph)) - 1)
        self.assertEqual(without_cleanup(leaving(), ("util", 0, 0)).editions("util")[0][3], ())

    def test_most_stays(self):
        for most in (2, 6):
            graph = program(most=most, main=(edition((), (), (), (("carry",),)),))
            self.assertEqual(without_cleanup(graph, ("main", 0, 0)).most, most)

    def test_drawn_graphs(self):
        chance = random.Random(80)
        for _ in range(80):
            graph = drawn.draw_graph(chance)
            found = places(graph)
            self.assertEqual(found, [(name, number, index) for name in graph.names
                                     for number in range(len(graph.editions(name)))
                                     for index in range(len(graph.editions(name)[number][3]))])
            for place in found:
                self.assertEqual(without_cleanup(graph, place), removed(graph, place))

    def test_values_that_are_no_places(self):
        graph = self.graph()
        wrong = any_values() + [list(place) for place in places(graph)] + [place[:2] for place in places(graph)]
        wrong += [place + (0,) for place in places(graph)] + [("z", 0, False), ("z", False, 0), ("a", True, 0),
                                                              ("a", 1, True), ("z", 0, 3), ("z", 0, -1), ("z", -1, 0),
                                                              ("z", 1, 0), ("z", 3, 0), ("a", 0, 0), ("b", 0, 0),
                                                              ("c", 0, 0), ("", 0, 0), ("Z", 0, 0), (0, "z", 0),
                                                              (("z",), 0, 0), ("z", "0", 0), ("z", 0, "0"), "z00",
                                                              ("z", 0, 10 ** 3999), ("z", 10 ** 3999, 0), ("z", 0)]
        for value in any_values():
            wrong += [(value, 0, 0)]
            if repr(value) not in ("0", "1"):
                wrong += [("a", value, 0), ("z", 0, value), ("a", 1, value)] if repr(value) != "2" else []
        for value in wrong:
            before = copy.deepcopy(value)
            with self.assertRaises(NoPlace) as caught:
                without_cleanup(graph, value)
            self.assertEqual(repr(caught.exception.place), repr(before))
            self.assertEqual(repr(value), repr(before))

    def test_the_error_keeps_no_list(self):
        value = [["z"], 0]
        with self.assertRaises(NoPlace) as caught:
            without_cleanup(self.graph(), value)
        value[0].append(1)
        value.clear()
        self.assertEqual(caught.exception.place, [["z"], 0])


class ByHand(unittest.TestCase):
    def test_rows_that_do_something(self):
        """The listeners and entries of a would be doubled; its words are dropped by a reload all the same."""
        graph = tidy(("unlisten",), ("leave", "b"), ("carry",))
        rows = places(graph)
        self.assertEqual(rows, [("a", number, index) for number in (0, 1) for index in (0, 1, 2)])
        self.assertEqual(needless(graph, KEPT, ("doubled",), limit=2000), [rows[2], rows[5]])
        self.assertEqual(needless(graph, LOST, ("dropped",), limit=2000), rows)
        self.assertEqual(needless(graph, KEPT, ("dropped",), limit=2000), rows)
        self.assertEqual(needless(graph, KEPT, ("dropped", "doubled"), limit=2000), [rows[2], rows[5]])
        self.assertEqual(needless(graph, KEPT, ("elder",), limit=2000), [rows[2], rows[5]])
        self.assertEqual(needless(graph, KEPT, (), limit=2000), rows)
        self.assertEqual(needless(graph, KEPT, ("doubled",), sets=False), [rows[2], rows[5]])

    def test_equal_rows_beside_each_other(self):
        graph = tidy(("unlisten",), ("unlisten",), ("leave", "b"))
        self.assertEqual(needless(graph, LOST, ("doubled",), sets=False),
                         [("a", 0, 0), ("a", 0, 1), ("a", 1, 0), ("a", 1, 1)])
        self.assertEqual(needless(graph, LOST, KINDS, sets=False),
                         [("a", 0, 0), ("a", 0, 1), ("a", 1, 0), ("a", 1, 1)])

    def test_the_only_row_of_an_edition(self):
        listens = edition(("b",), (("listen", "tick", "b"),), (), (("unlisten",),))
        quiet = edition((), (), (), (("unlisten",),))
        graph = program(main=(edition(("a", "b"), (), accepting("a")),), a=(listens, listens), b=(PLAIN,))
        self.assertEqual(needless(graph, LOST, ("doubled", "elder")), [])
        graph = program(main=(edition(("a", "b"), (), accepting("a")),), a=(quiet, quiet), b=(PLAIN,))
        self.assertEqual(needless(graph, LOST, KINDS), [("a", 0, 0), ("a", 1, 0)])

    def test_near_and_far(self):
        """The leave row of util helps under "far" only."""
        self.assertEqual(needless(leaving(), ("near", "again", "kept"), ("elder",)), [("util", 0, 0)])
        self.assertEqual(needless(leaving(), ("far", "again", "kept"), ("elder",)), [])
        self.assertEqual(needless(leaving(), ("far", "again", "kept"), ("behind",)), [("util", 0, 0)])

    def test_no_rows(self):
        self.assertEqual(needless(example(), LOST, KINDS), [])

    def test_a_new_list_each_time(self):
        needless(leaving(), LOST, ()).clear()
        self.assertEqual(needless(leaving(), LOST, ()), [("util", 0, 0)])


class Compared(unittest.TestCase):
    def test_drawn_graphs(self):
        seen = {True: 0, False: 0}
        chance = random.Random(81)
        for graph, rule, sets in drawn.books(82, 60, most=14):
            try:
                needless(graph, rule, (), sets=sets, limit=40)
            except TooManyStates:
                continue
            whole = SlowBook(graph, rule, sets)
            without = {place: SlowBook(removed(graph, place), rule, sets) for place in places(graph)}
            for kinds in (KINDS, tuple(chance.sample(KINDS, 3)), ("elder", "doubled")):
                wanted = [place for place in without if without[place].faults_of(kinds) == whole.faults_of(kinds)]
                found = needless(graph, rule, kinds, sets=sets)
                self.assertEqual(found, wanted, (graph.modules, graph.top, graph.most, rule, sets, kinds))
                for place in without:
                    seen[place in wanted] += 1
        self.assertGreater(seen[True], 50)
        self.assertGreater(seen[False], 10)

    def test_what_holds_for_graphs_goes_on_to_hold(self):
        """Books, counts and verdicts of graphs without a row."""
        chance = random.Random(83)
        for graph, rule, sets in drawn.books(84, 40, most=25):
            if not places(graph):
                continue
            made = without_cleanup(graph, chance.choice(places(graph)))
            try:
                book = Book(made, rule, sets=sets, limit=40)
            except TooManyStates:
                continue
            wanted = SlowBook(made, rule, sets)
            self.assertEqual((book.states(), [edge for edge in book.edges()]), (wanted.states, wanted.edges()))
            self.assertEqual(count_runs(book, ("elder", "lacking"), 2), wanted.count(("elder", "lacking"), 2))
            for fault in chance.sample(fault_values(made)[0], 4):
                kind, paper = verdict(made, rule, fault, sets=sets)
                if kind == "run":
                    self.assertEqual(list(paper), wanted.least_run(fault))
                    self.assertTrue(check_run(made, rule, fault, paper))
                else:
                    self.assertIsNone(wanted.least_run(fault))
                    self.assertTrue(check_closed(made, rule, fault, paper, sets=sets))


class Limits(unittest.TestCase):
    def test_the_book_of_the_graph_is_always_needed(self):
        many = len(Book(example(), LOST))
        self.assertEqual(places(example()), [])
        self.assertEqual(needless(example(), LOST, (), limit=many), [])
        with self.assertRaises(TooManyStates) as caught:
            needless(example(), LOST, (), limit=many - 1)
        self.assertEqual(caught.exception.limit, many - 1)

    def test_the_book_without_a_row(self):
        graph = tidy(("unlisten",), ("leave", "b"))
        books = [len(Book(made, LOST, sets=False)) for made in
                 [graph] + [without_cleanup(graph, place) for place in places(graph)]]
        self.assertLess(books[0], max(books))
        self.assertEqual(needless(graph, LOST, ("doubled",), sets=False, limit=max(books)), [])
        for limit in (max(books) - 1, books[0], books[0] - 1):
            with self.assertRaises(TooManyStates) as caught:
                needless(graph, LOST, (), sets=False, limit=limit)
            self.assertEqual(caught.exception.limit, limit)

    def test_the_limit_if_none_is_named(self):
        self.assertEqual(needless(celled(2, 3, 3), RELOAD, KINDS), [])
        with self.assertRaises(TooManyStates) as caught:
            needless(celled(3, 3, 3), RELOAD, KINDS)
        self.assertEqual(caught.exception.limit, 500)
        self.assertEqual(needless(celled(3, 3, 3), RELOAD, KINDS, limit=729), [])


class Errors(unittest.TestCase):
    def test_wrong_rules(self):
        for value in any_values():
            for kinds, limit in (((), 500), ("no", 500), ((), 0)):
                with self.assertRaises(InvalidRule) as caught:
                    needless(leaving(), value, kinds, limit=limit)
                self.assertEqual(caught.exception.path, ())

    def test_wrong_kinds(self):
        for value in kinds_values():
            for limit in (500, 0, 1):
                with self.assertRaises(BadKinds) as caught:
                    needless(leaving(), LOST, value, limit=limit)
                self.assertEqual(repr(caught.exception.kinds), repr(value))

    def test_wrong_limits(self):
        for value in limit_values():
            with self.assertRaises(BadLimit) as caught:
                needless(leaving(), LOST, ("behind",), limit=value)
            self.assertEqual(repr(caught.exception.limit), repr(value))

    def test_nothing_is_modified(self):
        graph = leaving()
        for rule in all_rules():
            needless(graph, rule, KINDS)
        self.assertEqual((graph, vars(graph)), (leaving(), vars(leaving())))


if __name__ == "__main__":
    unittest.main()

"""Books: their deeds, their states by number, what the deeds do in them, routes and least runs."""

import copy
import random
import unittest

from swappedhot.books import Book
from swappedhot.errors import BadFault, BadLimit, InvalidRule, TooManyStates
from swappedhot.judging import KINDS, judge
from swappedhot.rules import all_rules
from swappedhot.states import is_state
from swappedhot.swapping import step
from tests import drawn
from tests.samples import (PLAIN, RED, any_values, celled, edition, example, fault_values, limit_values,
                           listening, program, rules, with_true, zeros)
from tests.slow import SlowBook

LOST = ("near", "again", "lost")
RELOAD = ("near", "reload", "lost")


class Deeds(unittest.TestCase):
    def test_their_order(self):
        edits = [("edit", "main", 0), ("edit", "host", 0), ("edit", "host", 1), ("edit", "util", 0)]
        sets = [("set", name, word) for name in ("main", "host", "util") for word in ("red", "blue")]
        graph = example()
        self.assertEqual(Book(graph, LOST).deeds(), edits + [("fire", "tick")] + sets + [("reload",)])
        self.assertEqual(Book(graph, LOST, sets=True).deeds(), edits + [("fire", "tick")] + sets + [("reload",)])
        self.assertEqual(Book(graph, LOST, sets=False).deeds(), edits + [("fire", "tick")] + [("reload",)])

    def test_without_events(self):
        book = Book(program(main=(PLAIN, PLAIN)), LOST, sets=False)
        self.assertEqual(book.deeds(), [("edit", "main", 0), ("edit", "main", 1), ("fire", "tick"), ("fire", "tock"),
                                        ("reload",)])


class States(unittest.TestCase):
    def test_a_small_book(self):
        graph = example()
        book = Book(graph, LOST, sets=False)
        red = zeros(graph)
        blue = step(graph, LOST, red, ("edit", "host", 1)).state
        lost = step(graph, LOST, blue, ("edit", "host", 0)).state
        fresh = step(graph, LOST, blue, ("reload",)).state
        self.assertEqual(book.states(), [red, blue, lost, fresh])
        self.assertEqual((len(book), [book.number(state) for state in (red, blue, lost, fresh)]), (4, [0, 1, 2, 3]))
        self.assertEqual([[book.target(k, d) for d in range(6)] for k in range(4)],
                         [[0, 0, 1, 0, 0, 0], [1, 2, 1, 1, 1, 3], [2, 2, 1, 2, 2, 0], [3, 2, 3, 3, 3, 3]])
        self.assertEqual(book.faults(0, 0), [])
        self.assertEqual(book.faults(0, 2), [("lacking", "util"), ("dropped", "host")])
        self.assertEqual(book.faults(1, 4), [("lacking", "util")])
        self.assertEqual(book.faults(1, 5), [])

    def test_sets_lead_to_states_of_their_own(self):
        graph = program(main=(RED,))
        self.assertEqual(len(Book(graph, LOST, sets=False)), 1)
        book = Book(graph, LOST)
        self.assertEqual([state[1][0][2] for state in book.states()], ["red", "blue"])

    def test_a_refused_deed_leads_to_the_state_itself(self):
        book = Book(listening(), LOST, sets=False)
        refused = [(k, d) for k, d, _, faults in book.edges() if ("crowded", "") in faults]
        self.assertTrue(refused)
        for k, d in refused:
            self.assertEqual(book.target(k, d), k)
            self.assertEqual(book.faults(k, d)[-1], ("crowded", ""))
            self.assertEqual(len(book.states()[k][3]), 2)

    def test_the_attributes(self):
        graph = example()
        book = Book(graph, LOST)
        self.assertIs(book.graph, graph)
        self.assertEqual((book.rule, book.sets, book.limit), (LOST, True, 2000))
        book = Book(graph, ("far", "stay", "kept"), limit=70, sets=False)
        self.assertEqual((book.rule, book.sets, book.limit), (("far", "stay", "kept"), False, 70))

    def test_number_and_in_for_any_value(self):
        graph = example()
        book = Book(graph, LOST, sets=False)
        outside = Book(graph, LOST, sets=True).states()
        odd = ((0, 0, 0), (), (None, None, None), ())
        self.assertTrue(is_state(graph, odd))
        for value in any_values() + [odd, list(zeros(graph)), with_true(zeros(graph))] + outside:
            known = [repr(state) for state in book.states()]
            if repr(value) in known:
                self.assertEqual((book.number(value), value in book), (known.index(repr(value)), True))
            else:
                self.assertIsNone(book.number(value))
                self.assertIs(value in book, False)
        self.assertIs(zeros(graph) in book, True)
        self.assertTrue([state for state in outside if state not in book])

    def test_returned_lists_are_new(self):
        graph = example()
        book = Book(graph, LOST, sets=False)
        for call in (book.states, book.deeds, book.found, lambda: book.faults(0, 2), lambda: book.faults(1, 0),
                     lambda: book.route(2), lambda: book.least_run(("dropped", "host"))):
            before = call()
            spoiled = call()
            self.assertIsInstance(spoiled, list)
            self.assertTrue(spoiled)
            spoiled.reverse()
            spoiled.append("more")
            del spoiled[0]
            self.assertEqual(call(), before)
        self.assertEqual((len(book), book.number(zeros(graph))), (4, 0))
        self.assertEqual([edge for edge in book.edges()], [edge for edge in Book(graph, LOST, sets=False).edges()])


class Limits(unittest.TestCase):
    def test_one_that_just_suffices_and_one_too_small(self):
        for graph, rule, sets in drawn.books(20, 30):
            many = len(Book(graph, rule, sets=sets))
            self.assertEqual(len(Book(graph, rule, sets=sets, limit=many)), many)
            self.assertEqual(len(Book(graph, rule, sets=sets, limit=10 ** 3999)), many)
            if many > 1:
                for limit in (many - 1, 1):
                    with self.assertRaises(TooManyStates) as caught:
                        Book(graph, rule, sets=sets, limit=limit)
                    self.assertEqual(caught.exception.limit, limit)

    def test_the_limit_if_none_is_named(self):
        self.assertEqual(len(Book(celled(2, 3, 2, 2), RELOAD)), 1944)
        with self.assertRaises(TooManyStates) as caught:
            Book(celled(1, 3, 3, 3), RELOAD)
        self.assertEqual(caught.exception.limit, 2000)
        self.assertEqual(len(Book(celled(1, 3, 3, 3), RELOAD, limit=2187)), 2187)
        with self.assertRaises(TooManyStates) as caught:
            Book(celled(1, 3, 3, 3), RELOAD, limit=2186)
        self.assertEqual(caught.exception.limit, 2186)

    def test_wrong_limits(self):
        for value in limit_values():
            with self.assertRaises(BadLimit) as caught:
                Book(example(), LOST, limit=value)
            self.assertEqual(repr(caught.exception.limit), repr(value))


class Errors(unittest.TestCase):
    def test_the_first_in_the_order_counts(self):
        for limit in (0, True, 1, 2000):
            with self.assertRaises(InvalidRule) as caught:
                Book(example(), ("near", "again", "gone"), limit=limit)
            self.assertEqual(caught.exception.path, (2,))
        with self.assertRaises(BadLimit):
            Book(example(), LOST, limit=0)
        with self.assertRaises(TooManyStates):
            Book(example(), LOST, limit=1)

    def test_wrong_rules(self):
        for value in any_values():
            with self.assertRaises(InvalidRule) as caught:
                Book(example(), value)
            self.assertEqual(caught.exception.path, ())

    def test_wrong_faults(self):
        graph = example()
        book = Book(graph, LOST, sets=False)
        right, wrong = fault_values(graph)
        for value in wrong:
            before = copy.deepcopy(value)
            with self.assertRaises(BadFault) as caught:
                book.least_run(value)
            self.assertEqual(repr(caught.exception.fault), repr(before))
            self.assertEqual(repr(value), repr(before))
        for value in right:
            book.least_run(value)
        self.assertEqual(len(book), 4)


class Compared(unittest.TestCase):
    """Books against the slow ones of drawn graphs."""

    def compare(self, graph, rule, sets):
        book, slow = Book(graph, rule, sets=sets), SlowBook(graph, rule, sets)
        told = (graph.modules, graph.top, graph.most, rule, sets)
        self.assertEqual(book.states(), slow.states, told)
        self.assertEqual(book.deeds(), slow.deeds)
        self.assertEqual([book.route(k) for k in range(len(book))], [slow.route(k) for k in range(len(book))], told)
        self.assertEqual([edge for edge in book.edges()], slow.edges(), told)
        for k, d, target, faults in slow.edges():
            self.assertEqual((book.target(k, d), book.faults(k, d)), (target, list(faults)), told)
        self.assertEqual(book.found(), slow.found(), told)
        for fault in fault_values(graph)[0]:
            self.assertEqual(book.least_run(fault), slow.least_run(fault), (told, fault))
        for k, state in enumerate(slow.states):
            self.assertEqual((book.number(state), state in book), (k, True))
        return book.found()

    def test_drawn_books(self):
        kinds = set()
        for graph, rule, sets in drawn.books(21, 70):
            kinds |= {kind for kind, _ in self.compare(graph, rule, sets)}
        self.assertEqual(kinds, set(KINDS))

    def test_the_examples_under_all_rules(self):
        for rule in all_rules():
            for sets in (True, False):
                self.compare(example(), rule, sets)
                self.compare(listening(), rule, sets)

    def test_routes_lead_to_their_states(self):
        for graph, rule, sets in drawn.books(22, 25):
            book = Book(graph, rule, sets=sets)
            for k, state in enumerate(book.states()):
                reached = zeros(graph)
                for deed in book.route(k):
                    reached = step(graph, rule, reached, deed).state
                self.assertEqual(reached, state)
            self.assertEqual(book.route(0), [])

    def test_the_faults_are_those_of_judging(self):
        for graph, rule, sets in drawn.books(23, 25):
            book = Book(graph, rule, sets=sets)
            states, deeds = book.states(), book.deeds()
            for k, d, _, faults in book.edges():
                self.assertEqual(list(faults), judge(graph, rule, states[k], deeds[d]))


class Ties(unittest.TestCase):
    def test_of_several_shortest_runs_the_first_one(self):
        graph = program(main=(edition(("a", "b")), edition(("a", "b"))), a=(RED, RED), b=(RED, RED))
        rule = ("near", "stay", "kept")
        book = Book(graph, rule, sets=False)
        self.assertEqual(book.least_run(("behind", "b")), [("edit", "b", 1)])
        self.assertEqual(book.least_run(("behind", "main")), [("edit", "main", 1)])
        both = [k for k, state in enumerate(book.states()) if state[0] == (0, 1, 1)]
        self.assertIn([("edit", "a", 1), ("edit", "b", 1)], [book.route(k) for k in both])
        self.assertIsNone(book.least_run(("reloaded", "")))

    def test_a_run_may_be_long(self):
        book = Book(listening(), LOST, sets=False)
        self.assertEqual(book.least_run(("crowded", "")), [("edit", "a", 1), ("edit", "a", 0), ("edit", "a", 1)])


class Edges(unittest.TestCase):
    def test_to_the_end_and_broken_off(self):
        book = Book(example(), LOST, sets=False)
        edges = book.edges()
        self.assertIs(iter(edges), edges)
        self.assertEqual(next(edges), (0, 0, 0, ()))
        for k, d, target, faults in edges:
            if d == 2:
                self.assertEqual((k, target, faults), (0, 1, (("lacking", "util"), ("dropped", "host"))))
                break
        whole = [edge for edge in book.edges()]
        self.assertEqual([edge[:2] for edge in whole], [(k, d) for k in range(4) for d in range(6)])
        self.assertEqual([edge for edge in book.edges()], whole)
        self.assertEqual(next(edges), whole[3])
        for edge in whole:
            self.assertIsInstance(edge, tuple)
            self.assertIsInstance(edge[3], tuple)

    def test_two_at_once(self):
        book = Book(example(), LOST, sets=False)
        pairs = list(zip(book.edges(), book.edges()))
        self.assertEqual(len(pairs), 24)
        for one, other in pairs:
            self.assertEqual(one, other)


class Independence(unittest.TestCase):
    def test_books_of_one_graph_do_not_change_each_other(self):
        graph = example()
        books = [Book(graph, rule) for rule in all_rules()]
        again = [Book(graph, rule) for rule in all_rules()]
        for one, other in zip(books, again):
            self.assertEqual(one.states(), other.states())
        self.assertEqual(graph, example())

    def test_rules_that_are_equal_give_equal_books(self):
        chance = random.Random(24)
        for _ in range(10):
            graph = drawn.draw_graph(chance, drawn.changed(3, lambda rows: [row for row in rows if row[0] != "carry"]))
            for kept in rules("kept", "reload"):
                try:
                    book = Book(graph, kept, limit=100)
                except TooManyStates:
                    continue
                self.assertEqual(book.states(), Book(graph, kept[:2] + ("lost",), limit=100).states())


if __name__ == "__main__":
    unittest.main()

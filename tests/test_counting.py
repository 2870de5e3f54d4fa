"""Counting: runs without faults of some kinds, and states by their distance from the first one."""

import copy
import unittest
from itertools import permutations

from swappedhot.books import Book
from swappedhot.counting import count_runs, distances
from swappedhot.errors import BadKinds, BadLength
from swappedhot.graphs import Graph
from swappedhot.judging import KINDS
from tests import drawn
from tests.samples import PLAIN, any_values, celled, example, kinds_values, listening, program
from tests.slow import SlowBook

LOST = ("near", "again", "lost")


class Example(unittest.TestCase):
    def test_one_module(self):
        graph = Graph(("w",), (), (("m", (((), (), (), ()),)),), "m")
        self.assertEqual(count_runs(Book(graph, ("near", "stay", "kept"), sets=False), (), 3), 8)


class Counts(unittest.TestCase):
    def test_no_deeds(self):
        for graph, rule, sets in drawn.books(30, 10):
            for kinds in ((), ("behind",), KINDS):
                self.assertEqual(count_runs(Book(graph, rule, sets=sets), kinds, 0), 1)

    def test_no_kinds(self):
        for graph, rule, sets in drawn.books(31, 10):
            book = Book(graph, rule, sets=sets)
            for length in (1, 2, 7, 99, 100):
                self.assertEqual(count_runs(book, (), length), len(book.deeds()) ** length)

    def test_the_order_of_the_kinds_does_not_matter(self):
        book = Book(example(), LOST)
        for kinds in (("lacking", "dropped"), ("astray", "lacking", "elder")):
            self.assertEqual(len({count_runs(book, order, 5) for order in permutations(kinds)}), 1)

    def test_by_hand(self):
        """Every deed but the edit of host to the other edition leads to the state itself."""
        book = Book(example(), LOST, sets=False)
        self.assertEqual([count_runs(book, ("lacking",), length) for length in range(4)], [1, 5, 25, 125])
        self.assertEqual(count_runs(book, ("lacking",), 100), 5 ** 100)
        self.assertEqual(count_runs(book, ("reloaded", "behind", "more"), 100), 6 ** 100)
        self.assertEqual(count_runs(book, KINDS, 2), 25)

    def test_refused_deeds_count_as_deeds(self):
        book = Book(listening(), LOST, sets=False)
        many = len(book.deeds())
        self.assertEqual(count_runs(book, (), 4), many ** 4)
        runs = [count_runs(book, ("crowded",), length) for length in (2, 3)]
        self.assertEqual(runs[0], many ** 2)
        self.assertEqual(runs[1], many ** 3 - 1)

    def test_never_none(self):
        """In state 0 there is always an edit that does nothing."""
        for graph, rule, sets in drawn.books(34, 20):
            self.assertGreaterEqual(count_runs(Book(graph, rule, sets=sets), KINDS, 100), len(graph) ** 100)

    def test_a_fault_of_the_state_counts_with_every_deed(self):
        book = Book(program(main=(PLAIN, PLAIN)), ("near", "stay", "lost"), sets=False)
        self.assertEqual(book.deeds(), [("edit", "main", 0), ("edit", "main", 1), ("fire", "tick"), ("fire", "tock"),
                                        ("reload",)])
        self.assertEqual([count_runs(book, ("behind",), length) for length in (1, 2, 3)], [4, 16, 64])
        self.assertEqual([count_runs(book, ("elder",), length) for length in (1, 2, 3)], [5, 25, 125])

    def test_against_a_listing_of_all_runs(self):
        differences = 0
        for number, (graph, rule, sets) in enumerate(drawn.books(32, 25, most=40)):
            book, slow = Book(graph, rule, sets=sets), SlowBook(graph, rule, sets)
            for length in range(4 if len(slow.deeds) < 14 else 3):
                for kinds in ((), ("elder", "lacking"), (KINDS[number % 9],), KINDS, KINDS[::-1][:3]):
                    wanted = slow.count(kinds, length)
                    self.assertEqual(count_runs(book, kinds, length), wanted, (graph.modules, rule, kinds, length))
                    differences += wanted != len(slow.deeds) ** length
        self.assertGreater(differences, 50)

    def test_a_large_book(self):
        book = Book(celled(1, 3, 2, 2), ("near", "reload", "kept"))
        self.assertEqual(len(book), 972)
        self.assertEqual(count_runs(book, (), 100), len(book.deeds()) ** 100)
        self.assertEqual(count_runs(book, ("reloaded",), 1), len(book.deeds()) - 4)


class Distances(unittest.TestCase):
    def test_by_hand(self):
        self.assertEqual(distances(Book(example(), LOST, sets=False)), [1, 1, 2])
        self.assertEqual(distances(Book(program(main=(PLAIN,)), LOST)), [1])
        self.assertEqual(distances(Book(celled(1, 1), LOST)), [1, 4, 4])

    def test_drawn_books(self):
        for graph, rule, sets in drawn.books(33, 40, most=150):
            book = Book(graph, rule, sets=sets)
            found = distances(book)
            self.assertIsInstance(found, list)
            self.assertEqual(sum(found), len(book))
            self.assertNotIn(0, found)
            lengths = [len(book.route(k)) for k in range(len(book))]
            self.assertEqual(found, [lengths.count(length) for length in range(max(lengths) + 1)])

    def test_a_new_list_each_time(self):
        book = Book(example(), LOST, sets=False)
        distances(book).clear()
        self.assertEqual(distances(book), [1, 1, 2])


class Errors(unittest.TestCase):
    def setUp(self):
        self.book = Book(example(), LOST, sets=False)

    def test_wrong_kinds(self):
        for value in kinds_values():
            for length in (0, 100, -1, "no length"):
                before = copy.deepcopy(value)
                with self.assertRaises(BadKinds) as caught:
                    count_runs(self.book, value, length)
                self.assertEqual(repr(caught.exception.kinds), repr(before))
                self.assertEqual(repr(value), repr(before))

    def test_wrong_lengths(self):
        for value in any_values() + [-1, 101, 10 ** 3998, "3", (3,), [3], {3: 3}, {}, False]:
            if repr(value) in ("0", "1", "5"):
                continue
            with self.assertRaises(BadLength) as caught:
                count_runs(self.book, ("behind",), value)
            self.assertEqual(repr(caught.exception.length), repr(value))

    def test_the_error_keeps_no_list(self):
        value = [["behind"]]
        with self.assertRaises(BadKinds) as caught:
            count_runs(self.book, value, 1)
        value[0].append("elder")
        self.assertEqual(caught.exception.kinds, [["behind"]])

    def test_all_kinds_are_kinds(self):
        for kind in KINDS:
            count_runs(self.book, (kind,), 1)
        self.assertEqual(count_runs(self.book, KINDS, 1), count_runs(self.book, KINDS[::-1], 1))


if __name__ == "__main__":
    unittest.main()

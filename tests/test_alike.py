"""Rules that are alike: the papers of the search, and the checks of them."""

import copy
import random
import unittest

from swappedhot.alike import check_alike, check_unlike, rules_alike
from swappedhot.books import Book
from swappedhot.errors import BadLimit, InvalidRule, TooManyStates
from swappedhot.rules import all_rules
from tests import drawn, slow
from tests.samples import (PLAIN, RED, accepting, any_values, celled, edition, example, leaving, limit_values,
                           listening, program, with_true, zeros)

LOST = ("near", "again", "lost")
KEPT = ("near", "again", "kept")
STAY = ("near", "stay", "lost")
RELOAD = ("near", "reload", "lost")


def carrying():
    """The word in the cell of a is carried if the rule has "kept", and main calls a."""
    a = edition((), (("cell", "red"),), (), (("carry",),))
    return program(main=(edition(("a",), (("listen", "tick", "a"),), accepting("a")),), a=(a, a))


def crowding():
    """Under "again", an edit of a leaves the old instance of main to listen, and the next edit is refused."""
    main = edition(("a",), (("listen", "tick", "a"),))
    return program(most=3, main=(main,), a=(PLAIN, PLAIN))


class ByHand(unittest.TestCase):
    def test_rules_that_are_equal(self):
        for graph in (example(), leaving(), listening(), carrying()):
            for rule in all_rules():
                for sets in (True, False):
                    states = Book(graph, rule, sets=sets).states()
                    wanted = ("alike", tuple([(state, state) for state in states]))
                    self.assertEqual(rules_alike(graph, rule, rule, sets=sets), wanted)
                    self.assertIs(check_alike(graph, rule, rule, wanted[1], sets=sets), True)

    def test_words_that_are_carried(self):
        """The cell must be set first; without sets, nobody can tell."""
        graph = carrying()
        run = (("edit", "a", 1), ("set", "a", "blue"), ("edit", "a", 0), ("fire", "tick"))
        kind, deeds = rules_alike(graph, KEPT, LOST)
        self.assertEqual((kind, deeds), ("unlike", (("set", "a", "blue"), ("edit", "a", 1), ("fire", "tick"))))
        self.assertIs(check_unlike(graph, KEPT, LOST, deeds), True)
        self.assertIs(check_unlike(graph, KEPT, LOST, run), True)
        self.assertIs(check_unlike(graph, KEPT, LOST, run[:3]), False)
        self.assertIs(check_unlike(graph, KEPT, KEPT, run), False)
        kind, pairs = rules_alike(graph, KEPT, LOST, sets=False)
        self.assertEqual(kind, "alike")
        self.assertIs(check_alike(graph, KEPT, LOST, pairs, sets=False), True)
        self.assertIs(check_alike(graph, KEPT, LOST, pairs, sets=True), False)
        self.assertIs(check_alike(graph, KEPT, LOST, pairs), False)

    def test_states_that_differ_but_show_the_same(self):
        """The rules lead to other states, of which no deed tells."""
        kind, pairs = rules_alike(leaving(), ("near", "again", "kept"), ("far", "again", "kept"))
        self.assertEqual(kind, "alike")
        self.assertTrue([pair for pair in pairs if pair[0] != pair[1]])
        self.assertEqual(pairs[0], (zeros(leaving()),) * 2)

    def test_a_refusal_tells(self):
        graph = crowding()
        self.assertEqual(rules_alike(graph, LOST, RELOAD), ("unlike", (("edit", "a", 1), ("edit", "a", 0))))
        graph = program(most=2, main=(edition(("a",), (("listenheld", "tick", "h"),)),), a=(PLAIN, PLAIN))
        self.assertEqual(rules_alike(graph, LOST, RELOAD), ("unlike", (("edit", "a", 1),)))
        self.assertEqual(rules_alike(graph, RELOAD, LOST), ("unlike", (("edit", "a", 1),)))
        self.assertIs(check_unlike(graph, LOST, RELOAD, (("edit", "a", 1),)), True)

    def test_the_word_of_a_refusal_tells(self):
        """Under "near", util stays as an entry of the old host; under "far", it is gone, and host goes on to listen."""
        body = (("hold", "k", "host"), ("listenheld", "tick", "x"), ("listenheld", "tick", "x"))
        main = edition(("util", "host"), body, accepting("host", "util"))
        util = edition(("host",), (("enter", "host"),), (), (("leave", "host"),))
        host = edition((), (("listenheld", "tick", "x"),))
        graph = program(most=3, main=(main,), util=(util,), host=(host, host))
        near, far = LOST, ("far", "again", "lost")
        edit = ("edit", "host", 1)
        self.assertEqual([slow.shows(graph, rule, zeros(graph), edit) for rule in (near, far)],
                         ["instances", "listeners"])
        self.assertEqual(rules_alike(graph, near, far), ("unlike", (edit,)))
        self.assertIs(check_unlike(graph, near, far, (edit,)), True)
        self.assertIs(check_alike(graph, near, far, ((zeros(graph),) * 2,), sets=False), False)

    def test_the_same_refusal_does_not_tell(self):
        graph = listening()
        pairs = rules_alike(graph, LOST, RELOAD)
        self.assertEqual(pairs[0], "alike")
        refused = tuple([("edit", "a", number) for number in (1, 0, 1)])
        last = pairs[1][-1][0]
        self.assertEqual(slow.shows(graph, LOST, last, ("edit", "a", 1 - last[0][1])), "listeners")
        self.assertIs(check_unlike(graph, LOST, RELOAD, refused), False)
        self.assertIs(check_alike(graph, LOST, RELOAD, pairs[1]), True)

    def test_the_order_of_the_calls_tells(self):
        """a and b are run again in another order, and so they listen in another order."""
        listens = [edition(("c",), (("listen", "tick", "c"),), (("self",),), (("unlisten",),)) for _ in "ab"]
        main = edition(("a", "b"))
        graph = program(main=(main,), a=(listens[0],), b=(listens[1],), c=(PLAIN, PLAIN))
        for one, other in ((LOST, RELOAD), (LOST, STAY)):
            kind, paper = rules_alike(graph, one, other)
            self.assertIs(kind == "alike", slow.alike(graph, (one, other), True, 500)[0][0] == "alike")
            self.assertTrue(paper)


class Compared(unittest.TestCase):
    """Against slow searches, for drawn graphs."""

    def cases(self, seed, alike, unlike):
        """So many graphs with rules that are alike, and so many with rules that are not."""
        chance = random.Random(seed)
        left = {"alike": alike, "unlike": unlike}
        while left["alike"] or left["unlike"]:
            graph, sets = drawn.draw_graph(chance), chance.random() < 0.5
            first, second = chance.sample(all_rules(), 2)
            told = slow.alike(graph, (first, second), sets, 40)
            if told is not None and left[told[0][0]]:
                left[told[0][0]] -= 1
                yield graph, first, second, sets, told

    def test_papers_and_limits(self):
        lengths = set()
        for graph, first, second, sets, (wanted, many) in self.cases(60, 50, 25):
            told = (graph.modules, graph.top, graph.most, first, second, sets)
            self.assertEqual(rules_alike(graph, first, second, sets=sets), wanted, told)
            self.assertEqual(rules_alike(graph, first, second, sets=sets, limit=many), wanted, told)
            if many > 1:
                with self.assertRaises(TooManyStates) as caught:
                    rules_alike(graph, first, second, sets=sets, limit=many - 1)
                self.assertEqual(caught.exception.limit, many - 1)
            if wanted[0] == "unlike":
                lengths.add(len(wanted[1]))
                self.spoil_deeds(graph, first, second, wanted[1])
            else:
                self.spoil_pairs(graph, first, second, wanted[1], sets)
        self.assertGreater(len(lengths), 1)

    def spoil_deeds(self, graph, first, second, deeds):
        def check(value):
            return check_unlike(graph, first, second, value)

        self.assertIs(check(deeds), True)
        self.assertIs(check_unlike(graph, second, first, deeds), True)
        self.assertIs(check(()), False)
        self.assertIs(check(list(deeds)), False)
        self.assertIs(check(deeds[:-1]), False)
        self.assertIs(check(deeds + (None,)), False)
        self.assertIs(check((with_true(("edit", graph.top, 0)),) + deeds), False)
        self.assertIs(check((list(deeds[0]),) + deeds[1:]), False)
        self.assertIs(check((("edit", graph.top, 0),) + deeds), True)
        self.assertIs(check_unlike(graph, first, first, deeds), False)
        pairs = tuple([(state, state) for state in Book(graph, first, limit=10 ** 4).states()])
        self.assertIs(check_alike(graph, first, second, pairs), False)

    def spoil_pairs(self, graph, first, second, pairs, sets):
        def check(value):
            return check_alike(graph, first, second, value, sets=sets)

        self.assertIs(check(pairs), True)
        self.assertIs(check(pairs[::-1]), True)
        self.assertIs(check(list(pairs)), False)
        self.assertIs(check(()), False)
        for at, pair in enumerate(pairs):
            less = pairs[:at] + pairs[at + 1:]
            self.assertIs(check(less), False)
            for spoiled in (list(pair), pair[:1], pair + pair[:1], (pair[0], None), (with_true(pair[0]), pair[1]),
                            (list(pair[0]), pair[1]), None):
                self.assertIs(check(less + (spoiled,)), False)
            self.assertIs(check(pairs + (pair,)), False)
            self.assertIs(check(pairs + (pair + pair[:1],)), False)
            self.assertIs(check(pairs + (pair[:1],)), False)
            self.assertIs(check(pairs + (list(pair),)), False)
        for deeds in [(deed,) for deed in slow.deeds_of(graph, sets)]:
            self.assertIs(check_unlike(graph, first, second, deeds), False)


class Pairs(unittest.TestCase):
    def test_pairs_that_cannot_be_reached_may_stand_among_them(self):
        graph = program(main=(RED,))
        pairs = rules_alike(graph, LOST, KEPT)[1]
        nothing = ((0,), (), (None,), ())
        more = pairs + ((nothing, nothing),)
        self.assertIs(check_alike(graph, LOST, KEPT, more), True)
        self.assertIs(check_alike(graph, LOST, KEPT, more[::-1]), True)
        self.assertIs(check_alike(graph, LOST, KEPT, ((nothing, nothing),)), False)
        words = tuple([(state, nothing) for state, _ in pairs])
        self.assertIs(check_alike(graph, LOST, KEPT, more + words), True)
        self.assertIs(check_alike(graph, LOST, KEPT, more + words[:1]), False)
        self.assertIs(check_alike(graph, LOST, KEPT, more + words[:1], sets=False), True)
        self.assertEqual(len(pairs), 2)

    def test_one_deed_of_the_other_kind(self):
        """Of two programs, one may change where the other does not."""
        graph = program(main=(edition(("a",)),), a=(PLAIN, PLAIN))
        kind, pairs = rules_alike(graph, STAY, RELOAD)
        self.assertEqual(kind, "alike")
        self.assertEqual(len(pairs), len(set(pairs)))
        self.assertTrue([pair for pair in pairs if pair[0] != pair[1]])
        self.assertIs(check_alike(graph, STAY, RELOAD, pairs), True)
        self.assertIs(check_alike(graph, RELOAD, STAY, pairs), False)
        self.assertIs(check_alike(graph, RELOAD, STAY, tuple([pair[::-1] for pair in pairs])), True)

    def test_any_value(self):
        graph = example()
        pairs = rules_alike(graph, LOST, KEPT)[1]
        self.assertIs(check_alike(graph, LOST, KEPT, pairs), True)
        for value in any_values():
            before = copy.deepcopy(value)
            for spoiled in (value, (value,), pairs + (value,), pairs + ((value, zeros(graph)),),
                            pairs + ((zeros(graph), value),)):
                self.assertIs(check_alike(graph, LOST, KEPT, spoiled), False)
            for spoiled in (value, (value,), (value, ("fire", "tick")), (("fire", "tick"), value)):
                self.assertIs(check_unlike(carrying(), LOST, KEPT, spoiled), False)
            self.assertEqual(repr(value), repr(before))


class Runs(unittest.TestCase):
    def test_deeds_before_the_last_one_may_tell(self):
        graph = crowding()
        deeds = (("edit", "a", 1), ("fire", "tick"), ("fire", "tick"))
        for many, wanted in ((1, False), (2, True), (3, True)):
            self.assertIs(check_unlike(graph, LOST, RELOAD, deeds[:many]), wanted)
        self.assertIs(check_unlike(graph, LOST, RELOAD, deeds + (("reload",), ("fire", "tick"))), False)

    def test_a_refused_deed_changes_nothing(self):
        graph = program(most=2, main=(edition(("a",), (("listenheld", "tick", "h"),)),), a=(PLAIN, PLAIN))
        deeds = (("edit", "a", 1), ("edit", "a", 1), ("edit", "a", 0))
        self.assertIs(check_unlike(graph, LOST, RELOAD, deeds[:1]), True)
        self.assertIs(check_unlike(graph, LOST, RELOAD, deeds[:2]), True)
        self.assertIs(check_unlike(graph, LOST, RELOAD, deeds), False)
        self.assertIs(check_unlike(graph, LOST, RELOAD, deeds + deeds[:1]), True)

    def test_set_deeds_may_stand_there(self):
        deeds = (("set", "a", "blue"), ("edit", "a", 1), ("fire", "tick"))
        self.assertEqual(rules_alike(carrying(), KEPT, LOST)[1], deeds)
        self.assertIs(check_unlike(carrying(), KEPT, LOST, deeds), True)


class Limits(unittest.TestCase):
    def test_a_telling_deed_that_still_comes_first(self):
        """The deed that tells is found while there is one pair only, so the limit 1 suffices."""
        graph = program(most=2, main=(edition(("a",), (("listenheld", "tick", "h"),)),), a=(PLAIN, PLAIN))
        self.assertEqual(rules_alike(graph, LOST, RELOAD, limit=1), ("unlike", (("edit", "a", 1),)))
        for rule in (LOST, RELOAD):
            try:
                many = len(Book(graph, rule))
            except TooManyStates:
                many = 3000
            self.assertGreaterEqual(many, 1)
        self.assertGreater(len(Book(graph, RELOAD)), 1)

    def test_a_telling_deed_that_comes_too_late(self):
        graph = carrying()
        with self.assertRaises(TooManyStates):
            rules_alike(graph, KEPT, LOST, limit=1)
        least = [limit for limit in range(1, 60) if self.suffices(graph, limit)][0]
        self.assertEqual(least, slow.alike(graph, (KEPT, LOST), True, 500)[1])
        self.assertGreater(least, 2)
        for limit in range(1, least):
            self.assertFalse(self.suffices(graph, limit))
        self.assertTrue(self.suffices(graph, 10 ** 3999))

    def suffices(self, graph, limit):
        try:
            return rules_alike(graph, KEPT, LOST, limit=limit) == rules_alike(graph, KEPT, LOST)
        except TooManyStates as error:
            self.assertEqual(error.limit, limit)
            return False

    def test_the_limit_if_none_is_named(self):
        self.assertEqual(len(rules_alike(celled(2, 3, 2, 2), RELOAD, RELOAD)[1]), 1944)
        with self.assertRaises(TooManyStates) as caught:
            rules_alike(celled(1, 3, 3, 3), RELOAD, RELOAD)
        self.assertEqual(caught.exception.limit, 2000)


class Errors(unittest.TestCase):
    def calls(self, first, second, limit=2000):
        graph = example()
        yield lambda: rules_alike(graph, first, second, limit=limit)
        yield lambda: rules_alike(graph, first, second, sets=False, limit=limit)
        yield lambda: check_alike(graph, first, second, ((zeros(graph),) * 2,))
        yield lambda: check_alike(graph, first, second, None, sets=False)
        yield lambda: check_unlike(graph, first, second, (("reload",),))
        yield lambda: check_unlike(graph, first, second, None)

    def test_wrong_rules(self):
        for value in any_values():
            for one, other, path in ((value, LOST, ()), (LOST, value, ()), (("near", "stay", 0), value, (2,)),
                                     (value, ("near", "stay", 0), ()), (("near", 0, 0), ("near", "stay", 0), (1,)),
                                     (LOST, ("near", "stay", value), (2,))):
                for call in self.calls(one, other, 0):
                    with self.assertRaises(InvalidRule) as caught:
                        call()
                    self.assertEqual(caught.exception.path, path)

    def test_wrong_limits(self):
        for value in limit_values():
            with self.assertRaises(BadLimit) as caught:
                rules_alike(example(), LOST, KEPT, limit=value)
            self.assertEqual(repr(caught.exception.limit), repr(value))

    def test_the_order(self):
        for first, second, limit, error in (("no", "no", 0, InvalidRule), (LOST, "no", 0, InvalidRule),
                                            (LOST, KEPT, 0, BadLimit), (LOST, KEPT, 1, TooManyStates)):
            with self.assertRaises(error):
                rules_alike(example(), first, second, limit=limit)


if __name__ == "__main__":
    unittest.main()

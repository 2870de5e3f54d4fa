"""Graphs and values that several tests use."""

import unittest

from swappedhot.graphs import Graph
from swappedhot.rules import all_rules
from swappedhot.running import start
from swappedhot.states import is_state
from swappedhot.swapping import Step, step

PLAIN = ((), (), (), ())
RED = ((), (("cell", "red"),), (), ())
BLUE = ((), (("cell", "blue"),), (), ())
SELF = (("self",),)


def edition(imports=(), body=(), accepts=(), cleanup=()):
    return (imports, body, accepts, cleanup)


def accepting(*names):
    """What accepts these imports without any rows."""
    return tuple([(name, ()) for name in names])


def program(top="main", most=8, **modules):
    """A graph of modules that are named by keywords, each with its editions."""
    return Graph(("red", "blue"), ("tick", "tock"), tuple(modules.items()), top, most=most)


def zeros(graph):
    """The start of the sources that consist of zeros."""
    return start(graph, (0,) * len(graph))


def after(graph, rule, *deeds):
    """The state to which deeds lead from the start of the sources that consist of zeros."""
    state = zeros(graph)
    for deed in deeds:
        state = step(graph, rule, state, deed).state
    return state


def example():
    """The graph of the examples in the document."""
    main = ("main", ((("host", "util"), (("listen", "tick", "util"),), (("host", ()),), ()),))
    host = ("host", (((), (("cell", "red"),), (), ()), ((), (("cell", "blue"),), (), ())))
    util = ("util", ((("host",), (("enter", "host"),), (("host", ()),), ()),))
    return Graph(("red", "blue"), ("tick",), (main, host, util), "main")


def leaving():
    """The graph of the second example of swapping in the document."""
    main = ("main", ((("util", "host"), (("hold", "h", "host"),), (("host", ()), ("util", ())), ()),))
    util = ("util", ((("host",), (("enter", "host"),), (), (("leave", "host"),)),))
    host = ("host", (((), (), (), ()), ((), (), (), ())))
    return Graph(("red",), (), (main, util, host), "main")


def nested(shape, depth):
    """A value of lists, tuples or dicts that is nested so deep."""
    value = 1
    for _ in range(depth):
        value = [value] if shape == "list" else (value,) if shape == "tuple" else {"a": value}
    return value


def any_values():
    """Values of every kind that may stand where the document says any value."""
    return [
        0, 1, -1, 5, 10 ** 3999, -(10 ** 3999), True, False, None,
        "", "a", "main", "self", "words", "abcdefghi", "Main", " main", "main\n", "~" * 4000,
        (), [], {}, (0,), [0], (None,), (True,), ((),), ([],), [()], [[]], {"main": 0}, {0: [1]},
        ("main",), ["main"], ("a", "b"), (0, 0, 0, 0), ((), (), (), ()), [(), (), (), ()],
        nested("list", 20), nested("tuple", 20), nested("dict", 20),
    ]


def rules(*words):
    """The rules that have all these words."""
    return [rule for rule in all_rules() if all([word in rule for word in words])]


class Edits(unittest.TestCase):
    """What tests of edits have in common."""

    def edits(self, graph, state, deed, wanted, trace, *words):
        """Under all rules with these words, the deed leads to the state with the trace."""
        self.assertTrue(is_state(graph, state))
        for rule in rules(*words):
            made = step(graph, rule, state, deed)
            self.assertIsInstance(made, Step)
            self.assertEqual(made.state, wanted, rule)
            self.assertEqual((made.calls, made.trace), ((), trace), rule)
            self.assertIsInstance(made.trace, tuple)

"""Graphs and values that several tests use."""

import unittest

from swappedhot.graphs import Graph
from swappedhot.judging import KINDS
from swappedhot.rules import all_rules
from swappedhot.running import start
from swappedhot.states import is_state
from swappedhot.swapping import Step, step

PLAIN = ((), (), (), ())
RED = ((), (("cell", "red"),), (), ())
BLUE = ((), (("cell", "blue"),), (), ())
SELF = (("self",),)


def edition(imports=(), body=(), accepts=(), cleanup=()):
    return (imports, body, accepts, cleanup)


def accepting(*names):
    """What accepts these imports without any rows."""
    return tuple([(name, ()) for name in names])


def program(top="main", most=8, **modules):
    """A graph of modules that are named by keywords, each with its editions."""
    return Graph(("red", "blue"), ("tick", "tock"), tuple(modules.items()), top, most=most)


def zeros(graph):
    """The start of the sources that consist of zeros."""
    return start(graph, (0,) * len(graph))


def after(graph, rule, *deeds):
    """The state to which deeds lead from the start of the sources that consist of zeros."""
    state = zeros(graph)
    for deed in deeds:
        state = step(graph, rule, state, deed).state
    return state


def example():
    """The graph of the examples in the document."""
    main = ("main", ((("host", "util"), (("listen", "tick", "util"),), (("host", ()),), ()),))
    host = ("host", (((), (("cell", "red"),), (), ()), ((), (("cell", "blue"),), (), ())))
    util = ("util", ((("host",), (("enter", "host"),), (("host", ()),), ()),))
    return Graph(("red", "blue"), ("tick",), (main, host, util), "main")


def leaving():
    """The graph of the second example of swapping in the document."""
    main = ("main", ((("util", "host"), (("hold", "h", "host"),), (("host", ()), ("util", ())), ()),))
    util = ("util", ((("host",), (("enter", "host"),), (), (("leave", "host"),)),))
    host = ("host", (((), (), (), ()), ((), (), (), ())))
    return Graph(("red",), (), (main, util, host), "main")


def listening():
    """Each edit of a leads to one more listener, until the third one is refused."""
    main = edition(("a",), (), (("a", (("listen", "tick", "a"),)),))
    return program(most=2, main=(main,), a=(PLAIN, PLAIN))


def celled(*many):
    """A graph of modules with so many editions, each with a cell for three words.

    As nothing is accepted, under "reload" every combination of editions and words is a state of its book.
    """
    names = ("main", "a", "b", "c")[:len(many)]
    main = edition(names[1:], (("cell", "red"),))
    modules = [(name, (main if name == "main" else RED,) * number) for name, number in zip(names, many)]
    return Graph(("red", "blue", "green"), (), tuple(modules), "main")


def nested(shape, depth):
    """A value of lists, tuples or dicts that is nested so deep."""
    value = 1
    for _ in range(depth):
        value = [value] if shape == "list" else (value,) if shape == "tuple" else {"a": value}
    return value


def any_values():
    """Values of every kind that may stand where the document says any value."""
    return [
        0, 1, -1, 5, 10 ** 3999, -(10 ** 3999), True, False, None,
        "", "a", "main", "self", "words", "abcdefghi", "Main", " main", "main\n", "~" * 4000,
        (), [], {}, (0,), [0], (None,), (True,), ((),), ([],), [()], [[]], {"main": 0}, {0: [1]},
        ("main",), ["main"], ("a", "b"), (0, 0, 0, 0), ((), (), (), ()), [(), (), (), ()],
        nested("list", 20), nested("tuple", 20), nested("dict", 20),
    ]


def limit_values():
    """Values that are no limits."""
    return [value for value in any_values() if repr(value) not in ("1", "5", repr(10 ** 3999))] + [-5, "1", (1,), [1]]


def fault_values(graph):
    """All faults of a graph, and values that are none."""
    whole = ("astray", "reloaded", "crowded")
    right = [(kind, name) for kind in KINDS if kind not in whole for name in graph.names]
    right += [(kind, "") for kind in whole]
    wrong = any_values() + [(kind, "") for kind in KINDS if kind not in whole]
    wrong += [(kind, name) for kind in whole for name in graph.names]
    wrong += [list(fault) for fault in right] + [fault + ("",) for fault in right] + [fault[:1] for fault in right]
    wrong += [("behind", "nobody"), ("Behind", graph.top), ("", ""), ("", graph.top), (graph.top, "behind"), "astray",
              ("astray", None), ("astray", ()), ("behind", (graph.top,)), ("behind", 0), (("behind",), graph.top)]
    wrong += [(value, graph.top) for value in any_values()] + [("behind", value) for value in any_values()
                                                               if value not in graph.names]
    return right, wrong


def kinds_values():
    """Values that are no kinds."""
    wrong = [value for value in any_values() if value != ()]
    wrong += [list(KINDS), [], ["behind"], ("behind", "behind"), KINDS + ("behind",), ("behind", "elder", "behind"),
              ("Behind",), ("behind", ""), ("",), (("behind",),), ("behind", ["elder"]), {"behind": 1}, "behind",
              ("behind", "main"), (("behind", "main"),)]
    return wrong + [("behind", value) for value in any_values()]


def with_true(value):
    """The value in which False and True stand in the places of 0 and 1; it is equal, but it is another one."""
    if isinstance(value, tuple):
        return tuple([with_true(item) for item in value])
    return bool(value) if value in (0, 1) else value


def rules(*words):
    """The rules that have all these words."""
    return [rule for rule in all_rules() if all([word in rule for word in words])]


class Edits(unittest.TestCase):
    """What tests of edits have in common."""

    def edits(self, graph, state, deed, wanted, trace, *words):
        """Under all rules with these words, the deed leads to the state with the trace."""
        self.assertTrue(is_state(graph, state))
        for rule in rules(*words):
            made = step(graph, rule, state, deed)
            self.assertIsInstance(made, Step)
            self.assertEqual(made.state, wanted, rule)
            self.assertEqual((made.calls, made.trace), ((), trace), rule)
            self.assertIsInstance(made.trace, tuple)

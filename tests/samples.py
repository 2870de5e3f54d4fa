"""Graphs and values that several tests use."""

from swappedhot.graphs import Graph

PLAIN = ((), (), (), ())


def edition(imports=(), body=(), accepts=(), cleanup=()):
    return (imports, body, accepts, cleanup)


def example():
    """The graph of the examples in the document."""
    main = ("main", ((("host", "util"), (("listen", "tick", "util"),), (("host", ()),), ()),))
    host = ("host", (((), (("cell", "red"),), (), ()), ((), (("cell", "blue"),), (), ())))
    util = ("util", ((("host",), (("enter", "host"),), (("host", ()),), ()),))
    return Graph(("red", "blue"), ("tick",), (main, host, util), "main")


def nested(shape, depth):
    """A value of lists, tuples or dicts that is nested so deep."""
    value = 1
    for _ in range(depth):
        value = [value] if shape == "list" else (value,) if shape == "tuple" else {"a": value}
    return value


def any_values():
    """Values of every kind that may stand where the document says any value."""
    return [
        0, 1, -1, 5, 10 ** 3999, -(10 ** 3999), True, False, None,
        "", "a", "main", "self", "words", "abcdefghi", "Main", " main", "main\n", "~" * 4000,
        (), [], {}, (0,), [0], (None,), (True,), ((),), ([],), [()], [[]], {"main": 0}, {0: [1]},
        ("main",), ["main"], ("a", "b"), (0, 0, 0, 0), ((), (), (), ()), [(), (), (), ()],
        nested("list", 20), nested("tuple", 20), nested("dict", 20),
    ]

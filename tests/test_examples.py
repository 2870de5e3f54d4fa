"""The examples of the interface, as the document gives them.

Each is a list of lines and what the last of them shows, or the error that it raises.
"""

import unittest

GRAPH = [
    'main = ("main", ((("host", "util"), (("listen", "tick", "util"),), (("host", ()),), ()),))',
    'host = ("host", (((), (("cell", "red"),), (), ()), ((), (("cell", "blue"),), (), ())))',
    'util = ("util", ((("host",), (("enter", "host"),), (("host", ()),), ()),))',
]

EXAMPLES = [
    ("swappedhot/graphs.py", [
        'from swappedhot.graphs import Graph',
        'Graph(("w", "w"), (), (), "m")',
    ], "raises InvalidGraph(part='words', path=(1,))"),
    ("swappedhot/rules.py", [
        'from swappedhot.rules import all_rules',
        'all_rules()[:2]',
    ], "[('near', 'reload', 'kept'), ('near', 'reload', 'lost')]"),
    ("swappedhot/running.py", [
        'from swappedhot.graphs import Graph',
        'from swappedhot.running import start',
        *GRAPH,
        'graph = Graph(("red", "blue"), ("tick",), (main, host, util), "main")',
        'start(graph, (0, 0, 0))',
    ], ("((0, 0, 0), (('main', 0, None, (), ()), ('host', 0, 'red', (), (2,)), ('util', 0, None, (), ()))"
        ", (0, 1, 2), ((0, 'tick', 'listen', 'util'),))")),
    ("swappedhot/climbing.py", [
        'from swappedhot.graphs import Graph',
        'from swappedhot.running import start',
        'from swappedhot.climbing import climb',
        'c = ("c", (((), (), (), ()),))',
        'a = ("a", ((("c",), (), (), ()),))',
        'b = ("b", ((("c",), (), (), ()),))',
        'main = ("main", ((("a", "b"), (), (), ()),))',
        'graph = Graph(("w",), (), (main, a, b, c), "main")',
        'climb(graph, start(graph, (0, 0, 0, 0)), "c")',
    ], "(('c', 'a', 'b', 'main'), (), (), ('main',))"),
    ("swappedhot/swapping.py", [
        'from swappedhot.graphs import Graph',
        'from swappedhot.running import start',
        'from swappedhot.swapping import step',
        'from swappedhot.judging import judge',
        *GRAPH,
        'graph = Graph(("red", "blue"), ("tick",), (main, host, util), "main")',
        'state = start(graph, (0, 0, 0))',
        'rule = ("near", "again", "lost")',
        'done = step(graph, rule, state, ("edit", "host", 1))',
        '(done.state[1], done.trace, judge(graph, rule, state, ("edit", "host", 1)))',
    ], ("((('main', 0, None, (), ()), ('util', 0, None, (), ()), ('host', 1, 'blue', (), ())), (('away', "
        "'host'), ('run', 'host'), ('accept', 'main', 'host'), ('accept', 'util', 'host')), [('lacking', "
        "'util'), ('dropped', 'host')])")),
    ("swappedhot/swapping.py", [
        'from swappedhot.graphs import Graph',
        'from swappedhot.running import start',
        'from swappedhot.swapping import step',
        ('main = ("main", ((("util", "host"), (("hold", "h", "host"),), (("host", ()), ("util", ())), ()),'
         '))'),
        'util = ("util", ((("host",), (("enter", "host"),), (), (("leave", "host"),)),))',
        'host = ("host", (((), (), (), ()), ((), (), (), ())))',
        'graph = Graph(("red",), (), (main, util, host), "main")',
        'state = start(graph, (0, 0, 0))',
        'near = step(graph, ("near", "again", "kept"), state, ("edit", "host", 1)).state',
        'far = step(graph, ("far", "again", "kept"), state, ("edit", "host", 1)).state',
        '(near[1], far[1])',
    ], ("((('main', 0, None, (('h', 2),), ()), ('util', 0, None, (), ()), ('host', 0, None, (), (1,)), ('"
        "host', 1, None, (), (4,)), ('util', 0, None, (), ())), (('main', 0, None, (('h', 1),), ()), ('ho"
        "st', 0, None, (), ()), ('host', 1, None, (), (3,)), ('util', 0, None, (), ())))")),
    ("swappedhot/counting.py", [
        'from swappedhot.graphs import Graph',
        'from swappedhot.books import Book',
        'from swappedhot.counting import count_runs',
        'graph = Graph(("w",), (), (("m", (((), (), (), ()),)),), "m")',
        'count_runs(Book(graph, ("near", "stay", "kept"), sets=False), (), 3)',
    ], '8'),
    ("swappedhot/verdicts.py", [
        'from swappedhot.graphs import Graph',
        'from swappedhot.verdicts import verdict',
        *GRAPH,
        'graph = Graph(("red", "blue"), ("tick",), (main, host, util), "main")',
        'verdict(graph, ("near", "again", "lost"), ("lacking", "util"))',
    ], "('run', (('edit', 'host', 1),))"),
    ("swappedhot/texts.py", [
        'from swappedhot.graphs import Graph',
        'from swappedhot.texts import write_graph',
        'write_graph(Graph(("w",), (), (("m", (((), (), (), ()),)),), "m"))',
    ], "'words w\\nevents\\nmost 5\\ntop m\\nmodule m\\nedition'"),
    ("swappedhot/texts.py", [
        'from swappedhot.texts import read_graph',
        'read_graph("words w\\nevents\\n")',
    ], 'raises InvalidText(line=3)'),
    ("swappedhot/texts.py", [
        'from swappedhot.texts import read_deeds',
        'read_deeds("edit host 1\\nreload")',
    ], "(('edit', 'host', 1), ('reload',))"),
    ("swappedhot/desk.py", [
        'from swappedhot.graphs import Graph',
        'from swappedhot.desk import Desk',
        *GRAPH,
        ('desk = Desk(Graph(("red", "blue"), ("tick",), (main, host, util), "main"), ("near", "again", "lo'
         'st"))'),
        '[desk("edit host 1"), desk("state"), desk("fire tick"), desk("undo"), desk("climb host")]',
    ], ("['lacking util, dropped host', 'main 0, host 1 blue, util 0', 'main 0 > util 0', 'undone fire ti"
        "ck', 'host']")),
]


def shown(lines):
    """What the last line shows after the others, or how it fails."""
    names = {}
    for line in lines[:-1]:
        exec(line, names)
    try:
        return repr(eval(lines[-1], names))
    except ValueError as error:
        told = ", ".join([f"{name}={value!r}" for name, value in vars(error).items()])
        return f"raises {type(error).__name__}({told})"


class Examples(unittest.TestCase):
    def test_they_show_what_the_document_says(self):
        self.assertEqual(len(EXAMPLES), 12)
        for file, lines, wanted in EXAMPLES:
            with self.subTest(file):
                self.assertEqual(shown(lines), wanted)


if __name__ == "__main__":
    unittest.main()

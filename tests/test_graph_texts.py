"""Graphs as texts: each form of line, where it can stand, and what the whole text must say."""

import random
import unittest

from swappedhot.errors import InvalidGraph, InvalidText
from swappedhot.graphs import Graph
from swappedhot.texts import read_graph, write_graph
from tests import drawn
from tests.samples import PLAIN, SELF, edition, example, leaving, program

EXAMPLE = """words red blue
events tick
most 5
top main
module main
edition
import host
import util
listen tick util
accept host
module host
edition
cell red
edition
cell blue
module util
edition
import host
enter host
accept host"""

# A text with every form of line in it.
WHOLE = """words red blue green
events tick tock
most 8
top main
module main
edition
import host
import util
cell green
hold h host
listen tick util
listenheld tock h
enter util
accept util
 hold k util
 listen tock host
 enter host
accept self
accept host
 listenheld tick k
unlisten
leave util
carry
unlisten
edition
module host
edition
carry
edition
accept self
module util
edition
import main
enter main
leave main"""

# The kinds of lines in the order in which they come first.
KINDS = ["words", "events", "most", "top", "module", "edition", "import", "body", "self", "accept", "row", "cleanup"]

FORMS = {
    "words": ("words red", "words", "words red blue green red"),
    "events": ("events", "events tick", "events a b c d"),
    "most": ("most 5", "most 0", "most 9"),
    "top": ("top main", "top self", "top abcdefgh"),
    "module": ("module main", "module self", "module z"),
    "edition": ("edition",),
    "import": ("import host", "import self"),
    "body": ("hold h host", "listen tick host", "listenheld tick h", "enter host", "cell red", "cell nobody"),
    "self": ("accept self",),
    "accept": ("accept host", "accept nobody"),
    "row": (" hold h host", " listen tick host", " listenheld tick h", " enter host"),
    "cleanup": ("unlisten", "leave host", "leave nobody", "carry"),
}

NO_FORMS = [
    "", " ", "  ", "   ", "word", "Words red", "words  red", "words red ", " words red", "words Red", "words red1",
    "words abcdefghi", "words red  blue", "words ", "event tick", "events ", "events Tick", "events tick ", " events",
    "most", "most ", "most 10", "most 05", "most -1", "most five", "most 5 ", "most  5", "most 5 5", " most 5",
    "most a",
    "most +5", "most 5\\", "top", "top ", "top main host", "top Main", "top  main", "top main ", " top main", "top 5",
    "top abcdefghi", "module", "module ", "module main host", "module Main", "module main ", " module main",
    "module abcdefghi", "module m1", "edition ", " edition", "edition 0", "edition main", "Edition", "editions",
    "import", "import ", "import host util", "import Host", "import host ", "import  host", " import host",
    "hold", "hold h", "hold h host util", "hold  h host", "hold h  host", "hold h host ", "hold H host", "hold h 1",
    "hold abcdefghi host", "  hold h host", " hold h", " hold h host ", " hold  h host", " hold h host util",
    "listen", "listen tick", "listen tick host util", "listen tick ", "listen tick host ", " listen tick",
    "listenheld", "listenheld tick", "listenheld tick h k", " listenheld tick", " listenheld tick h ",
    "  listenheld tick h", "enter", "enter ", "enter host util", "enter host ", " enter", " enter ", " enter host util",
    " enter Host", "cell", "cell ", "cell red blue", "cell Red", "cell red ", " cell red", " cell", "  cell red",
    "accept", "accept ", "accept host util", "accept host ", "accept Host", " accept host", " accept self",
    "accept self ", "accept self self", "unlisten ", " unlisten", "unlisten tick", "leave", "leave ", "leave host util",
    " leave host", "leave Host", "leave host ", "carry ", " carry", "carry red", "Carry", "none", "self", "row", "body",
    "cleanup", "fire tick", "reload", "~", "words:red", "words\\tred", "# words", "hold_h_host",
]


def slow_kind(line):
    """The kind of a line, by another way than the program's: from its words, one after the other."""
    if line == "":
        return None
    row = line[0] == " "
    parts = (line[1:] if row else line).split(" ")
    names = [part for part in parts[1:] if 0 < len(part) < 9 and set(part) <= set("abcdefghijklmnopqrstuvwxyz")]
    many, word = len(parts) - 1, parts[0]
    if len(names) != many:
        return "most" if not row and word == "most" and parts[1:] in [[digit] for digit in "0123456789"] else None
    if row:
        right = {"hold": 2, "listen": 2, "listenheld": 2, "enter": 1}.get(word) == many
        return "row" if right else None
    if word in ("words", "events"):
        return word
    if (word, many) in (("top", 1), ("module", 1), ("edition", 0), ("import", 1)):
        return word
    if (word, many) in (("hold", 2), ("listen", 2), ("listenheld", 2), ("enter", 1), ("cell", 1)):
        return "body"
    if (word, many) == ("accept", 1):
        return "self" if names == ["self"] else "accept"
    return "cleanup" if (word, many) in (("unlisten", 0), ("leave", 1), ("carry", 0)) else None


def slow_first_wrong(text):
    """The number of the first line that cannot stand where it stands, or None; point by point of the document."""
    kinds = [slow_kind(line) for line in text.split("\n")]
    for at, kind in enumerate(kinds):
        earlier = kinds[:at]
        if kind is None:
            return at + 1
        if at < 4:
            if kind != KINDS[at]:
                return at + 1
            continue
        if kind in KINDS[:4]:
            return at + 1
        if "module" not in earlier:
            if kind != "module":
                return at + 1
            continue
        if kind in ("module", "edition"):
            continue
        heads = [index for index, each in enumerate(earlier) if each in ("module", "edition")]
        if earlier[heads[-1]] == "module":
            return at + 1
        rank = {"import": 0, "body": 1, "self": 2, "accept": 2, "row": 2, "cleanup": 3}
        if [each for each in earlier[heads[-1] + 1:] if rank[each] > rank[kind]]:
            return at + 1
        if kind == "row" and earlier[-1] not in ("accept", "row"):
            return at + 1
    return len(kinds) + 1 if len(kinds) < 5 else None


class Tests(unittest.TestCase):
    def wrong(self, text, line):
        with self.assertRaises(InvalidText) as caught:
            read_graph(text)
        self.assertEqual(caught.exception.line, line, text)

    def compare(self, text):
        """The text is read as the slow reading says; return whether it makes a graph."""
        line = slow_first_wrong(text)
        if line is not None:
            self.wrong(text, line)
            return None
        try:
            graph = read_graph(text)
        except InvalidGraph as error:
            return error
        self.assertEqual(write_graph(graph), text)
        return graph


class Writing(Tests):
    def test_the_example_of_the_document(self):
        self.assertEqual(write_graph(Graph(("w",), (), (("m", (((), (), (), ()),)),), "m")),
                         "words w\nevents\nmost 5\ntop m\nmodule m\nedition")

    def test_the_text_of_a_graph(self):
        self.assertEqual(write_graph(example()), EXAMPLE)
        self.assertEqual(read_graph(EXAMPLE), example())

    def test_every_form(self):
        graph = read_graph(WHOLE)
        self.assertEqual((graph.words, graph.events, graph.most, graph.top),
                         (("red", "blue", "green"), ("tick", "tock"), 8, "main"))
        imports, body, accepts, cleanup = graph.editions("main")[0]
        self.assertEqual(imports, ("host", "util"))
        self.assertEqual(body, (("cell", "green"), ("hold", "h", "host"), ("listen", "tick", "util"),
                                ("listenheld", "tock", "h"), ("enter", "util")))
        self.assertEqual(accepts, (("util", (("hold", "k", "util"), ("listen", "tock", "host"), ("enter", "host"))),
                                   ("self",), ("host", (("listenheld", "tick", "k"),))))
        self.assertEqual(cleanup, (("unlisten",), ("leave", "util"), ("carry",), ("unlisten",)))
        self.assertEqual(graph.editions("main")[1], PLAIN)
        self.assertEqual(graph.editions("host"), (edition((), (), (), (("carry",),)), edition((), (), SELF)))
        self.assertEqual(graph.editions("util"), (edition(("main",), (("enter", "main"),), (), (("leave", "main"),)),))
        self.assertEqual(write_graph(graph), WHOLE)

    def test_drawn_graphs(self):
        chance = random.Random(90)
        for graph in [example(), leaving(), program(main=(PLAIN,))] + [drawn.draw_graph(chance) for _ in range(200)]:
            text = write_graph(graph)
            again = read_graph(text)
            self.assertEqual(again, graph)
            self.assertEqual(vars(again), vars(graph))
            self.assertEqual(write_graph(again), text)
            self.assertIsNone(slow_first_wrong(text))

    def test_what_is_read_consists_of_tuples(self):
        def check(value):
            self.assertIn(type(value), (tuple, str, int))
            if isinstance(value, tuple):
                for item in value:
                    check(item)

        graph = read_graph(WHOLE)
        for value in (graph.words, graph.events, graph.modules, graph.top, graph.most, graph.names):
            check(value)


class Beginnings(Tests):
    def test_the_example_of_the_document(self):
        self.wrong("words w\nevents\n", 3)

    def test_fewer_than_five_lines(self):
        lines = EXAMPLE.split("\n")
        self.wrong("", 1)
        for many in range(1, 5):
            self.wrong("\n".join(lines[:many]), many + 1)
            self.wrong("\n".join(lines[:many]) + "\n", many + 1)
        self.wrong("\n", 1)
        self.wrong("\n\n\n\n\n\n", 1)
        self.wrong("words w\nmost 5", 2)
        self.wrong("words w\nevents\nmost 5\ntop main\nmodule", 5)

    def test_a_module_alone(self):
        with self.assertRaises(InvalidGraph) as caught:
            read_graph("words w\nevents\nmost 5\ntop main\nmodule main")
        self.assertEqual((caught.exception.part, caught.exception.path), ("modules", (0,)))

    def test_each_of_the_first_four_lines(self):
        lines = EXAMPLE.split("\n")
        for at in range(4):
            for kind, forms in FORMS.items():
                for form in forms:
                    text = "\n".join(lines[:at] + [form] + lines[at + 1:])
                    if kind == KINDS[at]:
                        self.assertIsNone(slow_first_wrong(text))
                        self.compare(text)
                    else:
                        self.wrong(text, at + 1)

    def test_lines_that_have_no_form(self):
        lines = EXAMPLE.split("\n")
        for form in NO_FORMS:
            self.assertIsNone(slow_kind(form), form)
            for at in range(len(lines)):
                self.wrong("\n".join(lines[:at] + [form] + lines[at:]), at + 1)
                self.wrong("\n".join(lines[:at] + [form] + lines[at + 1:]), at + 1)
            self.wrong("\n".join(lines + [form]), len(lines) + 1)


class Places(Tests):
    def test_each_form_at_each_place(self):
        """Put in at each place of a long text, and in the place of each line."""
        made = {"graph": 0, "no graph": 0, "text": 0}
        for whole in (EXAMPLE, WHOLE):
            lines = whole.split("\n")
            for kind, forms in FORMS.items():
                for form in forms:
                    self.assertEqual(slow_kind(form), kind)
                    for at in range(len(lines) + 1):
                        for text in ("\n".join(lines[:at] + [form] + lines[at:]),
                                     "\n".join(lines[:at] + [form] + lines[at + 1:])):
                            got = self.compare(text)
                            made["text" if got is None else "graph" if isinstance(got, Graph) else "no graph"] += 1
        self.assertGreater(min(made.values()), 200, made)

    def test_each_line_left_out_doubled_and_exchanged(self):
        for whole in (EXAMPLE, WHOLE):
            lines = whole.split("\n")
            for at in range(len(lines)):
                self.compare("\n".join(lines[:at] + lines[at + 1:]))
                self.compare("\n".join(lines[:at] + [lines[at]] * 2 + lines[at + 1:]))
                for other in range(at):
                    mixed = list(lines)
                    mixed[at], mixed[other] = mixed[other], mixed[at]
                    self.compare("\n".join(mixed))

    def test_spaces_at_each_place(self):
        for whole in (EXAMPLE, WHOLE):
            for at in range(len(whole) + 1):
                self.compare(whole[:at] + " " + whole[at:])
                if whole[at:at + 1] == " ":
                    self.compare(whole[:at] + whole[at + 1:])

    def test_line_feeds_at_each_place(self):
        for at in range(len(EXAMPLE) + 1):
            self.compare(EXAMPLE[:at] + "\n" + EXAMPLE[at:])
        self.wrong(EXAMPLE + "\n", 21)
        self.wrong(EXAMPLE + " ", 20)
        self.wrong(EXAMPLE + "\n\n", 21)
        self.wrong("\n" + EXAMPLE, 1)
        self.wrong(" " + EXAMPLE, 1)

    def test_drawn_lines(self):
        chance = random.Random(91)
        forms = [form for kind in KINDS for form in FORMS[kind]]
        head = ["words red blue", "events tick", "most 5", "top main", "module main"]
        graphs = 0
        for _ in range(4000):
            lines = head + [chance.choice(forms) for _ in range(chance.randint(1, 4))]
            graphs += isinstance(self.compare("\n".join(lines)), Graph)
        for _ in range(4000):
            kinds = sorted([chance.choice(KINDS[5:]) for _ in range(chance.randint(1, 5))], key=KINDS.index)
            lines = head + ["edition"] + [chance.choice(FORMS[kind]) for kind in kinds]
            graphs += isinstance(self.compare("\n".join(lines)), Graph)
        self.assertGreater(graphs, 100)

    def test_rows_of_accepts_items(self):
        head = "words red\nevents tick\nmost 5\ntop main\nmodule host\nedition\nmodule main\nedition\nimport host\n"
        self.assertEqual(read_graph(head + "accept host\n enter host\n enter host\naccept self").editions("main")[0][2],
                         (("host", (("enter", "host"),) * 2), ("self",)))
        self.wrong(head + " enter host", 10)
        self.wrong(head + "accept self\n enter host", 11)
        self.wrong(head + "accept host\naccept self\n enter host", 12)
        self.wrong(head + "accept host\ncarry\n enter host", 12)
        self.wrong(head + "enter host\n enter host", 11)
        self.wrong(head + "accept host\n enter host\n cell red", 12)
        self.wrong(head + "accept host\nedition\n enter host", 12)
        self.wrong(head + "accept host\n enter host\nenter host", 12)
        self.wrong(head + "accept host\n accept self", 11)


class Graphs(Tests):
    """Lines that can stand, with values that make no graph."""

    def no_graph(self, text, part, path):
        self.assertIsNone(slow_first_wrong(text))
        with self.assertRaises(InvalidGraph) as caught:
            read_graph(text)
        self.assertEqual((caught.exception.part, caught.exception.path), (part, path))

    def changed(self, old, new):
        self.assertIn(old, EXAMPLE)
        return EXAMPLE.replace(old, new, 1)

    def test_each_part(self):
        for old, new, part, path in (
                ("words red blue", "words", "words", ()),
                ("words red blue", "words red blue green pink", "words", ()),
                ("words red blue", "words red blue red", "words", (2,)),
                ("events tick", "events tick tock tack", "events", ()),
                ("events tick", "events tick tick", "events", (1,)),
                ("most 5", "most 0", "most", ()),
                ("most 5", "most 1", "most", ()),
                ("most 5", "most 9", "most", ()),
                ("most 5", "most 2", "starts", (0, 0, 0)),
                ("top main", "top nobody", "top", ()),
                ("top main", "top self", "top", ()),
                ("module host", "module self", "modules", (1,)),
                ("module util", "module host", "modules", (2,)),
                ("module main\n", "module main\nmodule last\n", "modules", (0,)),
                ("import host", "import nobody", "modules", (0, 0, 0, 0)),
                ("import util", "import host", "modules", (0, 0, 0, 1)),
                ("import util", "import self", "modules", (0, 0, 0, 1)),
                ("import host\nimport util\n", "import util\n", "modules", (0, 0, 2, 0)),
                ("listen tick util", "listen tock util", "modules", (0, 0, 1, 0)),
                ("listen tick util", "enter host\nlisten tick main", "modules", (0, 0, 1, 1)),
                ("listen tick util", "cell green", "modules", (0, 0, 1, 0)),
                ("listen tick util", "\n".join(["enter host"] * 7), "modules", (0, 0, 1)),
                ("cell red", "cell red\ncell red", "modules", (1, 0, 1, 1)),
                ("cell red\nedition", "cell red" + 3 * "\nedition", "modules", (1,)),
                ("accept host", "accept host\naccept host", "modules", (0, 0, 2, 1)),
                ("accept host", "accept main", "modules", (0, 0, 2, 0)),
                ("accept host", "accept self\naccept self", "modules", (0, 0, 2, 1)),
                ("accept host", "accept self\naccept host" + "\n enter util" * 4, "modules", (0, 0, 2, 1)),
                ("accept host", "accept host\n enter main", "modules", (0, 0, 2, 0)),
                ("accept host", "accept host\nleave nobody", "modules", (0, 0, 3, 0)),
                ("accept host", "accept host\ncarry\nleave main", "modules", (0, 0, 3, 1)),
                ("accept host", "accept host" + "\ncarry" * 5, "modules", (0, 0, 3))):
            self.no_graph(self.changed(old, new), part, path)

    def test_too_many_modules(self):
        self.no_graph(EXAMPLE + "\nmodule a\nedition\nmodule b\nedition", "modules", ())

    def test_the_whole_text_is_read_first(self):
        lines = self.changed("words red blue", "words")
        self.no_graph(lines, "words", ())
        self.wrong(lines + "\nwords red", 21)
        self.wrong(lines + "\n", 21)
        self.wrong(self.changed("top main", "top nobody") + "\ncarry\nunlisten ", 22)

    def test_the_first_wrong_part_counts(self):
        text = self.changed("words red blue", "words red red").replace("most 5", "most 0")
        self.no_graph(text, "words", (1,))
        self.no_graph(self.changed("most 5", "most 0").replace("top main", "top self"), "top", ())


class Long(Tests):
    def test_long_texts(self):
        for text, line in (("\n" * 20000, 1), (" " * 20000, 1), ("words" + " a" * 9997, 2), ("~" * 20000, 1),
                           ("words " + "a" * 19994, 1), ("edition\n" * 2500, 1), ("words a" + "\n" * 19993, 2),
                           ("words w\nevents\nmost 5\ntop m\nmodule m\n" + " " * 19900, 6),
                           ("words w\nevents\nmost 5\ntop m\nmodule m\n" + " \n" * 9900, 6),
                           ("words w\nevents\nmost 5\ntop m\nmodule m\nedition\naccept a\n" + " " * 19900, 8)):
            self.assertLessEqual(len(text), 20000)
            self.wrong(text, line)

    def test_long_texts_that_make_no_graph(self):
        head = "words w\nevents\nmost 5\ntop m\nmodule m\n"
        for text, part, path in ((head + "\n".join(["edition"] * 2400), "modules", (0,)),
                                 (head + "edition\n" + "\n".join(["carry"] * 3000), "modules", (0, 0, 3)),
                                 (head + "edition\n" + "\n".join(["enter m"] * 2400), "modules", (0, 0, 1)),
                                 (head + "edition\naccept m\n" + "\n".join([" enter m"] * 2200),
                                  "modules", (0, 0, 2, 0)),
                                 (head + "\n".join(["module m"] * 2200), "modules", ()),
                                 ("words" + " a" * 9970 + "\nevents\nmost 5\ntop m\nmodule m", "words", ()),
                                 ("words w\nevents" + " a" * 9970 + "\nmost 5\ntop m\nmodule m", "events", ())):
            self.assertLessEqual(len(text), 20000)
            with self.assertRaises(InvalidGraph) as caught:
                read_graph(text)
            self.assertEqual((caught.exception.part, caught.exception.path), (part, path))

    def test_a_large_graph(self):
        rows = (("listenheld", "abcdefgh", "zzzzzzzz"),)
        names = ("abcdefga", "abcdefgb", "abcdefgc", "abcdefgd")
        modules = []
        for name in names:
            imports = tuple([other for other in names if other != name])
            accepts = tuple([(other, rows * 3) for other in imports]) + SELF
            cleanup = tuple([("leave", other) for other in imports]) + (("carry",),)
            body = (("cell", "redredre"),) + tuple([("hold", "abcdefgh", imports[0])] * 5)
            modules.append((name, ((imports, body, accepts, cleanup),) * 3))
        graph = Graph(("redredre", "blueblue"), ("abcdefgh", "abcdefgi"), tuple(modules), names[3], most=8)
        text = write_graph(graph)
        self.assertGreater(len(text), 4000)
        self.assertEqual(read_graph(text), graph)
        self.assertEqual(write_graph(read_graph(text)), text)


if __name__ == "__main__":
    unittest.main()

"""Desks: the answer of each kind of line, and texts that are answered whole or not at all."""

import random
import unittest

from swappedhot.climbing import climb
from swappedhot.desk import Desk
from swappedhot.errors import DeskRefused, InvalidRule, TooMany
from swappedhot.graphs import Graph
from swappedhot.judging import judge
from swappedhot.live import Live
from swappedhot.rules import all_rules
from swappedhot.swapping import is_deed
from swappedhot.texts import write_deeds
from tests import drawn
from tests.samples import BLUE, PLAIN, RED, SELF, accepting, any_values, edition, example, listening, program, zeros

LOST = ("near", "again", "lost")
KEPT = ("near", "again", "kept")
BLUE_HOST = ("edit", "host", 1)

UNKNOWN = [
    "", " ", "unknown", "refused", "nothing", "help", "undo ", " undo", "undo 1", "Undo", "undone", "state ", " state",
    "state main", "states", "climb", "climb ", "climb nobody", "climb main host", "climb  main", "climb main ",
    " climb main", "climb Main", "climbs main", "edit host 2", "edit host 9", "edit nobody 0", "edit host",
    "edit host 01",
    "edit host 10", "edit host 1 ", " edit host 1", "edit  host 1", "fire tock", "fire", "fire ", "fire tick ",
    "set host green", "set nobody red", "set host", "set red host", "set host red ", "reload ", " reload", "reload 1",
    "edit host red", "set host 1", "fire host", "('reload',)", "~" * 4000, "a" * 4000, " " * 4000, "0", "main",
    "faults",
]


def told(desk):
    live = desk.live
    return (live.state, live.rule, live.done, list(live.befores), list(desk.answers), live.faults())


class Tests(unittest.TestCase):
    def refused(self, desk, text, index):
        """The text is refused at the line with the index, and everything is as before."""
        before, live, answers = told(desk), desk.live, desk.answers

        def add():
            other = desk
            other |= text

        with self.assertRaises(DeskRefused) as caught:
            add()
        self.assertEqual(caught.exception.index, index, text)
        self.assertEqual(told(desk), before)
        self.assertIs(desk.live, live)
        self.assertIs(desk.answers, answers)


class Beginnings(Tests):
    def test_the_example_of_the_document(self):
        desk = Desk(example(), LOST)
        self.assertEqual([desk(line) for line in ("edit host 1", "state", "fire tick", "undo", "climb host")],
                         ["lacking util, dropped host", "main 0, host 1 blue, util 0", "main 0 > util 0",
                          "undone fire tick", "host"])

    def test_the_attributes(self):
        graph = example()
        desk = Desk(graph, LOST)
        self.assertIsInstance(desk.live, Live)
        self.assertIs(desk.live.graph, graph)
        self.assertEqual((desk.live.rule, desk.live.state, desk.live.done), (LOST, zeros(graph), ()))
        self.assertEqual((desk.answers, type(desk.answers)), ([], list))
        self.assertIsNot(desk.answers, Desk(graph, LOST).answers)

    def test_wrong_rules(self):
        for value in any_values():
            with self.assertRaises(InvalidRule) as caught:
                Desk(example(), value)
            self.assertEqual(caught.exception.path, ())
        with self.assertRaises(InvalidRule) as caught:
            Desk(example(), ("near", "again", "again"))
        self.assertEqual(caught.exception.path, (2,))


class Lines(Tests):
    def answers(self, desk, *pairs):
        for line, answer in pairs:
            self.assertEqual(desk(line), answer, line)

    def test_calls(self):
        """With a word and without one, to an instance and to none, by an owner that is not current."""
        body = (("cell", "red"), ("listen", "tick", "a"), ("listenheld", "tick", "k"), ("listen", "tock", "b"))
        main = edition(("a", "b"), body, accepting("a") + SELF)
        graph = program(main=(main, edition(("b",))), a=(BLUE, PLAIN), b=(PLAIN,))
        self.answers(Desk(graph, LOST),
                     ("fire tick", "main 0 > a 0 blue, main 0 > none"),
                     ("fire tock", "main 0 > b 0"),
                     ("edit a 1", "ok"),
                     ("fire tick", "main 0 > a 1, main 0 > none"),
                     ("edit main 1", "elder main, doubled main, more a, astray"),
                     ("fire tick", "main 0 > a 1, main 0 > none"),
                     ("fire tock", "main 0 > b 0"),
                     ("reload", "ok"),
                     ("fire tick", "no calls"),
                     ("fire tock", "no calls"),
                     ("undo", "undone fire tock"),
                     ("undo", "undone fire tick"),
                     ("undo", "undone reload"),
                     ("fire tock", "main 0 > b 0"))

    def test_faults_and_ok(self):
        self.answers(Desk(example(), LOST),
                     ("edit host 0", "ok"), ("set host blue", "ok"), ("set main red", "ok"), ("reload", "dropped host"),
                     ("reload", "ok"), ("edit host 1", "lacking util, dropped host"), ("set host red", "lacking util"),
                     ("edit util 0", "lacking util"), ("reload", "dropped host"))
        graph = program(main=(edition(("a",)),), a=(PLAIN, PLAIN))
        self.answers(Desk(graph, ("near", "reload", "lost")), ("edit a 1", "reloaded"), ("edit a 1", "ok"))
        self.answers(Desk(graph, ("near", "stay", "lost")), ("edit a 1", "behind a"), ("set a red", "behind a"),
                     ("reload", "ok"), ("edit main 0", "ok"))

    def test_refused_with_each_word(self):
        main = edition(("a",), (("hold", "h", "a"),), accepting("a"))
        self.answers(Desk(program(most=2, main=(main,), a=(PLAIN, PLAIN)), LOST), ("edit a 1", "refused instances"))
        desk = Desk(listening(), LOST)
        self.answers(desk, ("edit a 1", "doubled main, astray"), ("edit a 0", "doubled main, astray"),
                     ("edit a 1", "refused listeners"), ("edit a 0", "doubled main, astray"))
        self.assertEqual(desk.live.done, (("edit", "a", 1), ("edit", "a", 0), ("edit", "a", 0)))
        main = edition(("a", "b"), (), (("a", (("enter", "b"),)),))
        desk = Desk(program(most=3, main=(main,), a=(PLAIN, PLAIN), b=(PLAIN,)), LOST)
        for number in (1, 0, 1):
            self.answers(desk, (f"edit a {number}", "doubled main"))
        before = told(desk)
        self.answers(desk, ("edit a 0", "refused entries"))
        self.assertEqual(told(desk), before)

    def test_undo(self):
        desk = Desk(example(), LOST)
        self.answers(desk, ("undo", "nothing to undo"), ("undo", "nothing to undo"))
        lines = ["edit host 1", "set host red", "fire tick", "reload", "edit host 1"]
        for line in lines:
            desk(line)
        for line in lines[::-1]:
            self.answers(desk, ("undo", "undone " + line))
        self.answers(desk, ("undo", "nothing to undo"))
        self.assertEqual((desk.live.state, desk.live.done), (zeros(example()), ()))

    def test_state(self):
        host = (RED, BLUE, PLAIN)
        graph = program(main=(edition(("host",), (), accepting("host")), PLAIN), host=host, util=(PLAIN,))
        self.answers(Desk(graph, LOST),
                     ("state", "main 0, host 0 red, util none"), ("set host blue", "ok"),
                     ("state", "main 0, host 0 blue, util none"), ("edit host 2", "ok"),
                     ("state", "main 0, host 2, util none"), ("edit main 1", "more host"),
                     ("state", "main 1, host 2, util none"), ("edit host 1", "more host"),
                     ("state", "main 1, host 1 blue, util none"), ("reload", "ok"),
                     ("state", "main 1, host none, util none"))
        desk = Desk(graph, LOST)
        desk.live.state = ((0, 0, 0), (), (None, None, None), ())
        self.answers(desk, ("state", "main none, host none, util none"))

    def test_climb(self):
        c = ("c", (((), (), (), ()),))
        a, b = [(name, (((("c",), (), (), ()),))) for name in "ab"]
        graph = Graph(("w",), (), (("main", ((("a", "b"), (), (), ()),)), a, b, c), "main")
        desk = Desk(graph, LOST)
        self.answers(desk, ("climb c", "c a b main"), ("climb b", "b main"), ("climb main", "main"),
                     ("climb d", "unknown"))
        self.assertEqual((desk.live.done, desk.answers), ((), []))
        self.answers(Desk(program(main=(PLAIN,), d=(PLAIN,)), LOST), ("climb d", "nothing"), ("climb main", "main"))

    def test_unknown_lines(self):
        desk = Desk(example(), LOST)
        desk("edit host 1")
        before = told(desk)
        for line in UNKNOWN:
            self.assertEqual(desk(line), "unknown", line)
            self.assertEqual(told(desk), before)

    def test_answers_are_not_added(self):
        desk = Desk(example(), LOST)
        for line in ("state", "edit host 1", "undo", "unknown", "fire tick", "climb main"):
            desk(line)
        self.assertEqual(desk.answers, [])

    def test_drawn_lines(self):
        """Each answer, made from what steps, judging and climbing say of a second live program."""
        chance = random.Random(96)
        seen = set()
        for _ in range(150):
            graph, rule = drawn.draw_graph(chance), chance.choice(all_rules())
            desk, live = Desk(graph, rule), Live(graph, rule)
            for _ in range(10):
                line = self.draw_line(chance, graph)
                wanted = self.answer(live, line)
                self.assertEqual(desk(line), wanted, (graph.modules, rule, line))
                self.assertEqual((desk.live.state, desk.live.done), (live.state, live.done))
                seen.add(wanted.split(" ")[0])
        self.assertLessEqual({"ok", "refused", "no", "undone", "nothing", "unknown", "behind", "dropped"}, seen)

    def draw_line(self, chance, graph):
        lines = ["undo", "state", "climb " + chance.choice(graph.names), chance.choice(UNKNOWN)]
        lines += [write_deeds([chance.choice(drawn.deeds_of(graph))]) for _ in range(8)]
        return chance.choice(lines)

    def answer(self, live, line):
        deeds = {write_deeds([deed]): deed for deed in drawn.deeds_of(live.graph)}
        if line in deeds:
            return self.answer_to_deed(live, deeds[line])
        if line == "undo":
            return "undone " + write_deeds([live.undo()]) if live.done else "nothing to undo"
        if line == "state":
            parts = []
            for name, index in zip(live.graph.names, live.state[2]):
                shown = ["none"] if index is None else [str(live.state[1][index][1]), live.state[1][index][2]]
                parts.append(" ".join([name] + [part for part in shown if part is not None]))
            return ", ".join(parts)
        if line in ["climb " + name for name in live.graph.names]:
            return " ".join(climb(live.graph, live.state, line[6:])[0]) or "nothing"
        return "unknown"

    def answer_to_deed(self, live, deed):
        faults = judge(live.graph, live.rule, live.state, deed)
        try:
            calls = live.do(deed).calls
        except TooMany as error:
            return "refused " + error.what
        if deed[0] != "fire":
            return ", ".join([(kind + " " + name).strip() for kind, name in faults]) or "ok"
        return ", ".join([f"{owner} {number} > " + (f"{called} {other} {word}".strip() if called else "none")
                          for owner, number, called, other, word in calls]) or "no calls"


class Texts(Tests):
    text = "edit host 1\nstate\nfire tick\nundo\nclimb host\nset host red"
    lines = text.split("\n")

    def test_the_lines_of_a_text(self):
        desk = same = Desk(example(), LOST)
        live = desk.live
        desk |= self.text
        self.assertIs(desk, same)
        self.assertIs(desk.live, live)
        other = Desk(example(), LOST)
        wanted = [other(line) for line in self.lines]
        self.assertEqual(desk.answers, wanted)
        self.assertEqual((live.state, live.done), (other.live.state, (BLUE_HOST, ("set", "host", "red"))))
        desk |= "undo"
        desk |= "undo\nundo\nundo"
        self.assertEqual(desk.answers, wanted + ["undone set host red", "undone edit host 1", "nothing to undo",
                                                 "nothing to undo"])
        self.assertIs(desk.live, live)
        self.assertEqual((live.state, live.done), (zeros(example()), ()))

    def test_one_line(self):
        desk = Desk(example(), LOST)
        desk |= "state"
        self.assertEqual(desk.answers, ["main 0, host 0 red, util 0"])

    def test_the_empty_text(self):
        desk = Desk(example(), LOST)
        self.refused(desk, "", 0)
        desk |= self.text
        self.refused(desk, "", 0)
        self.refused(desk, "\n", 0)
        self.refused(desk, "undo\n", 1)

    def test_unknown_lines_at_each_place(self):
        desk = Desk(example(), LOST)
        desk |= "set host blue\nfire tick"
        for at in range(len(self.lines) + 1):
            for line in UNKNOWN:
                self.refused(desk, "\n".join(self.lines[:at] + [line] + self.lines[at:]), at)
                self.refused(desk, "\n".join(["undo", "undo"] + self.lines[:at] + [line]), at + 2)
        self.assertEqual(desk("undo"), "undone fire tick")
        self.assertEqual(desk("undo"), "undone set host blue")
        self.assertEqual(desk("undo"), "nothing to undo")

    def test_refused_deeds_at_each_place(self):
        desk = Desk(listening(), LOST)
        desk |= "fire tick\nedit a 1\nedit a 0"
        self.refused(desk, "edit a 1", 0)
        self.refused(desk, "edit a 1\nreload\nstate", 0)
        self.refused(desk, "undo\nedit a 0\nedit a 1", 2)
        self.refused(desk, "undo\nundo\nundo\nundo\nreload\nedit a 1\nedit a 0\nedit a 1\nstate", 7)
        self.refused(desk, "state\nclimb a\nfire tick\nedit a 1\nunknown", 3)
        self.refused(desk, "state\nclimb a\nunknown\nedit a 1", 2)
        self.assertEqual(desk.answers, ["no calls", "doubled main, astray", "doubled main, astray"])
        self.assertEqual([desk("undo") for _ in range(4)],
                         ["undone edit a 0", "undone edit a 1", "undone fire tick", "nothing to undo"])

    def test_undoing_in_a_refused_text(self):
        """A text may undo more deeds than it does; when it is refused, they are all there again."""
        desk = Desk(example(), LOST)
        desk |= "edit host 1\nreload\nset host red"
        self.refused(desk, "undo\nundo\nundo\nundo\nset host blue\nundone", 5)
        self.assertEqual([desk("undo") for _ in range(4)],
                         ["undone set host red", "undone reload", "undone edit host 1", "nothing to undo"])
        self.assertEqual(desk.live.state, zeros(example()))

    def test_lines_between_texts(self):
        desk = Desk(example(), LOST)
        desk |= "edit host 1"
        self.assertEqual(desk("state"), "main 0, host 1 blue, util 0")
        self.assertEqual(desk("reload"), "ok")
        desk |= "undo\nstate"
        self.assertEqual(desk("undo"), "undone edit host 1")
        self.assertEqual(desk.answers, ["lacking util, dropped host", "undone reload", "main 0, host 1 blue, util 0"])

    def test_a_live_program_that_is_led_by_hand(self):
        a = edition((), (("cell", "red"),), (), (("carry",),))
        desk = Desk(program(main=(edition(("a",)),), a=(a, a)), LOST)
        desk.live["a"] = "blue"
        self.assertEqual(desk("edit a 1"), "dropped a")
        desk.live.undo()
        desk.live.use(KEPT)
        self.assertEqual(desk("edit a 1"), "ok")
        self.assertEqual(desk("state"), "main 0, a 1 blue")
        desk |= "undo\nundo"
        self.assertEqual(desk.live.rule, KEPT)
        desk.live.use(("near", "stay", "lost"))
        live = desk.live
        live += [("edit", "a", 1), ("fire", "tick")]
        desk |= "undo\nstate\nedit a 0\nedit a 1"
        self.assertEqual(desk.answers, ["undone edit a 1", "undone set a blue", "undone fire tick", "main 0, a 0 red",
                                        "ok", "behind a"])
        self.assertEqual(desk.live.done, (("edit", "a", 1), ("edit", "a", 0), ("edit", "a", 1)))
        self.refused(desk, "reload\nunknown", 1)
        self.assertEqual(desk.live.rule, ("near", "stay", "lost"))
        fork = desk.live.fork()
        desk |= "undo\nundo\nundo"
        self.assertEqual((len(fork), len(desk.live)), (3, 0))

    def test_answers_that_look_like_others(self):
        """Modules may be called "unknown" and "refused"; what their lines say is known and not refused."""
        unknown = edition(("refused",), (), accepting("refused"))
        graph = program(top="unknown", unknown=(unknown, unknown), refused=(RED, RED), nothing=(PLAIN,))
        desk = Desk(graph, LOST)
        desk |= "climb unknown\nstate\nclimb refused\nedit refused 1\nclimb nothing\nedit unknown 1"
        self.assertEqual(desk.answers, ["unknown", "unknown 0, refused 0 red, nothing none", "refused", "ok", "nothing",
                                        "ok"])
        graph = program(top="refused", refused=(PLAIN,), undo=(PLAIN,), state=(PLAIN,))
        desk = Desk(graph, LOST)
        desk |= "state\nclimb refused\nclimb undo\nclimb state\nundo\nedit undo 0\nundo"
        self.assertEqual(desk.answers, ["refused 0, undo none, state none", "refused", "nothing", "nothing",
                                        "nothing to undo", "ok", "undone edit undo 0"])

    def test_the_list_of_answers_is_the_same(self):
        desk = Desk(example(), LOST)
        answers = desk.answers
        desk |= "state"
        desk |= "undo"
        self.assertIs(desk.answers, answers)
        self.assertEqual(len(answers), 2)

    def test_a_desk_in_a_list(self):
        desks = [Desk(example(), LOST), Desk(example(), KEPT)]
        first, second = desks
        desks[0] |= "edit host 1"
        desks[1] |= "state"
        self.assertIs(desks[0], first)
        self.assertIs(desks[1], second)
        self.assertEqual((len(first.live), len(second.live)), (1, 0))

    def test_long_texts(self):
        desk = Desk(example(), LOST)
        desk |= "\n".join(["reload"] * 2857)
        self.assertEqual((len(desk.live), desk.answers), (2857, ["ok"] * 2857))
        self.refused(desk, "\n".join(["undo"] * 3999) + "\n", 3999)
        self.refused(desk, "\n" * 20000, 0)
        self.refused(desk, "climb " + "a" * 19990, 0)
        desk |= "\n".join(["undo"] * 2858)
        self.assertEqual((len(desk.live), desk.answers[-1]), (0, "nothing to undo"))

    def test_drawn_texts(self):
        chance = random.Random(97)
        lines, kinds = Lines(), {"fine": 0, "refused": 0}
        for _ in range(200):
            graph, rule = drawn.draw_graph(chance), chance.choice(all_rules())
            desk, other = Desk(graph, rule), Desk(graph, rule)
            for _ in range(3):
                text = [line for line in [lines.draw_line(chance, graph) for _ in range(7)]
                        if line not in UNKNOWN or chance.random() < 0.3]
                bad = self.first_bad(other.live.fork(), text or [""])
                if bad is None:
                    desk |= "\n".join(text)
                    other.answers.extend([other(line) for line in text])
                else:
                    self.refused(desk, "\n".join(text), bad)
                self.assertEqual(told(desk), told(other))
                kinds["fine" if bad is None else "refused"] += 1
        self.assertGreater(min(kinds.values()), 100)

    def first_bad(self, live, lines):
        """The index of the first line that is unknown or refused, or None."""
        deeds = {write_deeds([deed]): deed for deed in drawn.deeds_of(live.graph)}
        for index, line in enumerate(lines):
            if line in deeds:
                self.assertTrue(is_deed(live.graph, deeds[line]))
                try:
                    live.do(deeds[line])
                except TooMany:
                    return index
            elif line == "undo" and live.done:
                live.undo()
            elif line not in ("undo", "state") and line not in ["climb " + name for name in live.graph.names]:
                return index
        return None


if __name__ == "__main__":
    unittest.main()

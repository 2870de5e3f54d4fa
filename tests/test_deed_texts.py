"""Deeds as texts."""

import random
import unittest

from swappedhot.errors import InvalidText
from swappedhot.swapping import is_deed
from swappedhot.texts import read_deeds, write_deeds
from tests import drawn
from tests.samples import example

FORMS = {
    "edit host 1": ("edit", "host", 1),
    "edit self 0": ("edit", "self", 0),
    "edit abcdefgh 9": ("edit", "abcdefgh", 9),
    "fire tick": ("fire", "tick"),
    "fire z": ("fire", "z"),
    "set host red": ("set", "host", "red"),
    "set a b": ("set", "a", "b"),
    "set edit fire": ("set", "edit", "fire"),
    "reload": ("reload",),
}

NO_FORMS = [
    "", " ", "  ", "edit", "edit host", "edit host ", "edit host 10", "edit host 01", "edit host -1", "edit host +1",
    "edit host one", "edit host 1 ", "edit  host 1", "edit host  1", " edit host 1", "edit Host 1", "edit host1",
    "edit 1 host", "edit host 1 1", "edit abcdefghi 1", "edit  1", "Edit host 1", "edits host 1", "edit host 1.",
    "fire", "fire ", "fire  tick", "fire tick ", "fire tick tock", "fire Tick", "fire 1", "fire tick1", " fire tick",
    "fire abcdefghi", "set", "set host", "set host ", "set host red ", "set host red blue", "set  host red",
    "set host  red",
    "set host 1", "set Host red", "set host Red", " set host red", "set abcdefghi red", "set host abcdefghi",
    "reload ", " reload", "reload 1", "reload reload", "Reload", "reloads", "undo", "state", "climb host", "unknown",
    "~",
    "('reload',)", "edit_host_1", "#reload",
]


class Tests(unittest.TestCase):
    def wrong(self, text, line):
        with self.assertRaises(InvalidText) as caught:
            read_deeds(text)
        self.assertEqual(caught.exception.line, line, text)

    def test_the_example_of_the_document(self):
        self.assertEqual(read_deeds("edit host 1\nreload"), (("edit", "host", 1), ("reload",)))

    def test_no_deeds(self):
        self.assertEqual(read_deeds(""), ())
        self.assertEqual((write_deeds(()), write_deeds([])), ("", ""))

    def test_each_form(self):
        for line, deed in FORMS.items():
            self.assertEqual(read_deeds(line), (deed,))
            self.assertEqual(repr(read_deeds(line)), repr((deed,)))
            self.assertEqual(write_deeds((deed,)), line)
            self.assertEqual(write_deeds([deed]), line)
        text = "\n".join(FORMS)
        self.assertEqual(read_deeds(text), tuple(FORMS.values()))
        self.assertEqual(write_deeds(tuple(FORMS.values())), text)
        self.assertEqual(write_deeds(list(FORMS.values())), text)

    def test_a_line_that_is_none_at_each_place(self):
        lines = list(FORMS)
        for form in NO_FORMS:
            if form:
                self.wrong(form, 1)
            for at in range(len(lines) + 1):
                self.wrong("\n".join(lines[:at] + [form] + lines[at:]), at + 1)
                self.wrong("\n".join(lines[:at] + [form] + lines[at:] + ["", "no"]), at + 1)
        self.wrong("\n", 1)
        self.wrong("reload\n", 2)
        self.wrong("reload\n\nreload", 2)
        self.wrong("\nreload", 1)

    def test_the_names_need_not_occur_in_a_graph(self):
        self.assertEqual(read_deeds("edit nobody 7\nset no thing\nfire never"),
                         (("edit", "nobody", 7), ("set", "no", "thing"), ("fire", "never")))
        self.assertFalse(is_deed(example(), read_deeds("edit nobody 7")[0]))

    def test_editions_of_one_digit_and_of_two(self):
        for number in range(10):
            self.assertEqual(read_deeds(f"fire a\nedit host {number}"), (("fire", "a"), ("edit", "host", number)))
        for number in (10, 12, 99, 100, 10 ** 30):
            self.wrong(f"fire a\nedit host {number}", 2)

    def test_spaces_at_each_place(self):
        for line in FORMS:
            for at in range(len(line) + 1):
                spaced = line[:at] + " " + line[at:]
                self.wrong(spaced, 1)
                self.wrong("reload\n" + spaced, 2)

    def test_drawn_deeds(self):
        chance = random.Random(95)
        for _ in range(100):
            graph = drawn.draw_graph(chance)
            deeds = tuple([chance.choice(drawn.deeds_of(graph)) for _ in range(chance.randint(0, 9))])
            text = write_deeds(deeds)
            self.assertEqual(write_deeds(list(deeds)), text)
            self.assertEqual(read_deeds(text), deeds)
            self.assertEqual(len(text.split("\n")), max(len(deeds), 1))

    def test_a_list_is_not_modified(self):
        deeds = [("edit", "host", 1), ("reload",)]
        write_deeds(deeds)
        self.assertEqual(deeds, [("edit", "host", 1), ("reload",)])

    def test_long_texts(self):
        self.assertEqual(read_deeds("\n".join(["reload"] * 2857)), (("reload",),) * 2857)
        self.wrong("\n".join(["reload"] * 2800) + "\n", 2801)
        for text in ("\n" * 20000, " " * 20000, "~" * 20000, "reload" * 3333, "edit host " + "1" * 19990,
                     "fire " + "a" * 19990, "set" + " a" * 9990):
            self.assertLessEqual(len(text), 20000)
            self.wrong(text, 1)


if __name__ == "__main__":
    unittest.main()

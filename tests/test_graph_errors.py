"""What body rows, editions and graphs may be, and the path of each thing that is wrong."""

import unittest

from swappedhot.errors import InvalidGraph
from swappedhot.graphs import Graph
from tests.samples import PLAIN, any_values, edition

WORDS = ("red", "blue")
EVENTS = ("tick", "tock")
OTHERS = (("a", (PLAIN,)), ("b", (PLAIN,)))


class Wrong(unittest.TestCase):
    def wrong(self, part, path, words=WORDS, events=EVENTS, modules=OTHERS, top="a", most=5):
        with self.assertRaises(InvalidGraph) as caught:
            Graph(words, events, modules, top, most=most)
        self.assertEqual((caught.exception.part, caught.exception.path), (part, path))
        self.assertIs(type(caught.exception.path), tuple)

    def right(self, words=WORDS, events=EVENTS, modules=OTHERS, top="a", most=8):
        Graph(words, events, modules, top, most=most)

    def main(self, *editions):
        return (("main", editions),) + OTHERS

    def wrong_edition(self, path, wrong):
        """The edition is wrong, wherever it stands."""
        self.wrong("modules", (0, 0) + path, modules=self.main(wrong))
        self.wrong("modules", (0, 2) + path, modules=self.main(PLAIN, PLAIN, wrong))
        self.wrong("modules", (2, 1) + path, modules=OTHERS + (("main", (PLAIN, wrong)),))

    def right_edition(self, good):
        self.right(modules=self.main(good), top="a")


class WordsAndEvents(Wrong):
    def test_one_to_three_words(self):
        self.right(words=("a",))
        self.right(words=("a", "b", "c"))
        self.wrong("words", (), words=())
        self.wrong("words", (), words=("a", "b", "c", "d"))
        self.wrong("words", (), words=("a", "b", "c", "A"))

    def test_no_one_or_two_events(self):
        self.right(events=())
        self.right(events=("a",))
        self.right(events=("a", "b"))
        self.wrong("events", (), events=("a", "b", "c"))

    def test_no_lists(self):
        self.wrong("words", (), words=["a"])
        self.wrong("events", (), events=["a"])
        self.wrong("events", (), events=[])

    def test_items_are_names(self):
        for value in any_values() + ["A", "a1", "abcdefghi", b"a"]:
            if value in ("a", "main", "self", "words"):
                continue
            self.wrong("words", (0,), words=(value,))
            self.wrong("words", (1,), words=("a", value, value))
            self.wrong("events", (1,), events=("a", value))
        self.right(words=("self", "main", "abcdefgh"))

    def test_items_are_distinct(self):
        self.wrong("words", (1,), words=("w", "w"))
        self.wrong("words", (2,), words=("v", "w", "v"))
        self.wrong("words", (1,), words=("w", "w", ""))
        self.wrong("events", (1,), events=("e", "e"))

    def test_words_events_and_modules_may_share_names(self):
        self.right(words=("a", "b"), events=("b", "a"))

    def test_any_value(self):
        for value in any_values():
            if value not in (("main",), ("a", "b")):
                self.wrong("words", () if not isinstance(value, tuple) or not 1 <= len(value) <= 3 else (0,),
                           words=value)
            if value not in (("main",), ("a", "b"), ()):
                self.wrong("events", () if not isinstance(value, tuple) or len(value) > 2 else (0,), events=value)


class Modules(Wrong):
    def test_one_to_four_modules(self):
        self.right(modules=(("a", (PLAIN,)),))
        self.right(modules=OTHERS + (("c", (PLAIN,)), ("d", (PLAIN,))))
        self.wrong("modules", (), modules=())
        self.wrong("modules", (), modules=OTHERS + (("c", (PLAIN,)), ("d", (PLAIN,)), ("e", (PLAIN,))))
        self.wrong("modules", (), modules=list(OTHERS))
        for value in any_values():
            if not isinstance(value, tuple):
                self.wrong("modules", (), modules=value)

    def test_each_is_a_tuple_of_two(self):
        wrong = [("c",), ("c", (PLAIN,), 1), ["c", (PLAIN,)], "ab", {"c": (PLAIN,)}]
        for value in wrong + any_values():
            self.wrong("modules", (2,), modules=OTHERS + (value,))
            self.wrong("modules", (0,), modules=(value,) + OTHERS)

    def test_names_of_modules(self):
        for value in any_values() + ["A", "a1", "abcdefghi"]:
            if value not in ("a", "main", "words"):
                self.wrong("modules", (1,), modules=(("a", (PLAIN,)), (value, (PLAIN,))))
        self.wrong("modules", (1,), modules=(("a", (PLAIN,)), ("self", (PLAIN,))))
        self.wrong("modules", (1,), modules=(("a", (PLAIN,)), ("a", (PLAIN,))))
        self.wrong("modules", (2,), modules=OTHERS + (("a", (PLAIN,)), ("A", (PLAIN,))))

    def test_one_to_three_editions(self):
        self.right_edition(PLAIN)
        self.right(modules=self.main(PLAIN, PLAIN, PLAIN))
        self.wrong("modules", (0,), modules=(("a", ()),))
        self.wrong("modules", (0,), modules=(("a", (PLAIN,) * 4),))
        self.wrong("modules", (1,), modules=(("a", (PLAIN,)), ("b", [PLAIN])))
        for value in any_values():
            if not isinstance(value, tuple):
                self.wrong("modules", (0,), modules=(("a", value),))

    def test_editions_come_after_all_items(self):
        self.wrong("modules", (1,), modules=(("a", (None,)), ("b", ())))
        self.wrong("modules", (2,), modules=(("a", (edition(body=(0,)),)), ("b", (PLAIN,)), ("b", (PLAIN,))))
        self.wrong("modules", (0, 0), modules=(("a", (None,)), ("b", (None,))))
        self.wrong("modules", (0, 1), modules=(("a", (PLAIN, None)), ("b", (None,))))


class Editions(Wrong):
    def test_an_edition_is_a_tuple_of_four_tuples(self):
        wrong = [(), ((), (), ()), ((), (), (), (), ()), list(PLAIN)]
        wrong += [PLAIN[:k] + ([],) + PLAIN[k + 1:] for k in range(4)]
        wrong += [PLAIN[:k] + (value,) + PLAIN[k + 1:] for k in range(4) for value in (None, "a", 0, {})]
        wrong += [value for value in any_values() if value != PLAIN]
        for value in wrong:
            self.wrong_edition((), value)

    def test_imports(self):
        self.right_edition(edition(("a", "b")))
        self.right_edition(edition(("b", "a")))
        for value in any_values() + ["c", ("a",)]:
            if value != "a":
                self.wrong("modules", (0, 0, 0, 0), modules=self.main(edition((value, "a"))))
                self.wrong("modules", (0, 0, 0, 1), modules=self.main(edition(("a", value))))
        self.wrong_edition((0, 0), edition(("main",)))
        self.wrong_edition((0, 1), edition(("a", "a", "main")))
        self.wrong_edition((0, 2), edition(("a", "b", "a")))

    def test_the_parts_are_checked_in_order(self):
        self.wrong_edition((0, 0), edition(("c",), (0,) * 7, (0,), (0,) * 5))
        self.wrong_edition((1,), edition(("a",), (0,) * 7, (0,), (0,) * 5))
        self.wrong_edition((1, 0), edition(("a",), (0,) * 6, (0,), (0,) * 5))
        self.wrong_edition((2, 0), edition(("a",), (), (0,), (0,) * 5))
        self.wrong_edition((3,), edition(("a",), (), (), (0,) * 5))
        self.wrong_edition((3, 0), edition(("a",), (), (), (0,) * 4))

    def test_the_first_module_and_edition_counts(self):
        late = edition(("c",))
        early = edition(cleanup=(0,))
        self.wrong("modules", (0, 1, 3, 0), modules=(("a", (PLAIN, early)), ("b", (late,))))
        self.wrong("modules", (0, 0, 3, 0), modules=(("a", (early, late)), ("b", (late,))))


class Rows(Wrong):
    """Rows of the body, and those of accepts items, which obey the same conditions."""

    imports = ("a", "b")

    good = (
        ("hold", "h", "a"), ("hold", "main", "b"), ("hold", "abcdefgh", "a"),
        ("listen", "tick", "a"), ("listen", "tock", "b"),
        ("listenheld", "tick", "h"), ("listenheld", "tock", "main"),
        ("enter", "a"), ("enter", "b"),
    )

    bad = (
        (), ("hold",), ("enter",), ("cell",), ("enter", "red"), ("other", "red"), ("red", "red"), ("hold", "h"),
        ("hold", "h", "a", "a"), ("enter", "a", "a"), ("enter", "h", "a"),
        ("cell", "red", "a"), ("listen", "tick"), ("listenheld", "tick"), ("unlisten",), ("carry",), ("leave", "a"),
        ("hold", "H", "a"), ("hold", "", "a"), ("hold", 1, "a"), ("hold", None, "a"), ("hold", ("h",), "a"),
        ("hold", "h", "main"), ("hold", "h", "c"), ("hold", "h", None), ("hold", "h", ["a"]), ("hold", "h", "h"),
        ("listen", "red", "a"), ("listen", "tick", "main"), ("listen", "tick", "c"), ("listen", 0, "a"),
        ("listen", ["tick"], "a"), ("listen", "tick", {}), ("listen", "a", "tick"),
        ("listenheld", "red", "h"), ("listenheld", "tick", "H"), ("listenheld", "tick", 0),
        ("listenheld", "tick", "abcdefghi"), ("listenheld", None, "h"), ("listenheld", "tick", ("a",)),
        ("enter", "main"), ("enter", "c"), ("enter", True), ("enter", ("a",)), ("enter", ["a"]),
        ("other", "a"), ("other", "tick", "a"), (None, "a"), (True, "tick", "a"), ("Hold", "h", "a"),
        ["hold", "h", "a"], ["enter", "a"], "ab", "abc", ((), (), ()), ([], [], []),
    )

    def test_good_rows(self):
        for row in self.good:
            self.right_edition(edition(self.imports, (row,)))
            self.right_edition(edition(self.imports, (), (("a", (row,)),)))
        for word in WORDS:
            self.right_edition(edition(self.imports, (("cell", word),)))
            self.right_edition(edition((), (("cell", word),)))

    def test_bad_rows_in_the_body(self):
        cells = (("cell", "green"), ("cell", "tick"), ("cell", None), ("cell", 0), ("cell", ["red"]), ["cell", "red"])
        for row in self.bad + cells + tuple(any_values()):
            self.wrong("modules", (0, 0, 1, 0), modules=self.main(edition(self.imports, (row, row))))
            self.wrong("modules", (0, 0, 1, 1), modules=self.main(edition(self.imports, (("enter", "a"), row))))

    def test_bad_rows_in_accepts(self):
        for row in self.bad + (("cell", "red"), ("cell", "green")) + tuple(any_values()):
            for rows in ((row,), (("enter", "a"), row), (("enter", "a"), ("enter", "a"), row)):
                accepts = (("self",), ("b", rows), ("self",))
                self.wrong("modules", (0, 0, 2, 1), modules=self.main(edition(self.imports, (), accepts)))

    def test_modules_in_rows_are_imports_of_this_very_edition(self):
        for row in (("hold", "h", "b"), ("listen", "tick", "b"), ("enter", "b")):
            self.wrong_edition((1, 0), edition(("a",), (row,)))
            self.wrong_edition((2, 0), edition(("a",), (), (("a", (row,)),)))
            pair = (edition(("a", "b")), edition(("a",), (row,)))
            self.wrong("modules", (0, 1, 1, 0), modules=self.main(*pair))

    def test_at_most_six_rows(self):
        row = ("enter", "a")
        self.right_edition(edition(("a",), (row,) * 6))
        self.wrong_edition((1,), edition(("a",), (row,) * 7))
        self.wrong_edition((1,), edition(("a",), (None,) * 7))
        self.wrong_edition((1, 5), edition(("a",), (row,) * 5 + (None,)))

    def test_at_most_one_cell(self):
        self.right_edition(edition((), (("cell", "red"),)))
        self.wrong_edition((1, 1), edition((), (("cell", "red"), ("cell", "blue"))))
        self.wrong_edition((1, 2), edition(("a",), (("cell", "red"), ("enter", "a"), ("cell", "red"), None)))
        self.wrong_edition((1, 0), edition((), (("cell", "green"), ("cell", "blue"), ("cell", "red"))))


class Accepts(Wrong):
    def test_good_items(self):
        self.right_edition(edition((), (), (("self",),)))
        self.right_edition(edition(("a", "b"), (), (("b", ()), ("self",), ("a", ()))))
        self.right_edition(edition(("a",), (), (("a", (("enter", "a"),) * 3),)))

    def test_wrong_items(self):
        wrong = [
            ("self", ()), ("main", ()), ("b", ()), ("c", ()), ("a",), ("a", (), ()), ("a", []), ("a", None), "self",
            ["self"], ["a", ()], ("a", ("enter", "a")), ("a", [("enter", "a")]), ("a", (("enter", "a"),) * 4),
            (("a",), ()), (None, ()), ([], ()), "ab",
        ]
        for item in wrong + any_values():
            self.wrong("modules", (0, 0, 2, 0), modules=self.main(edition(("a",), (), (item, item))))
            self.wrong("modules", (0, 0, 2, 1), modules=self.main(edition(("a",), (), (("self",), item))))

    def test_of_two_equal_ones_the_later_is_wrong(self):
        self.wrong_edition((2, 1), edition((), (), (("self",), ("self",))))
        self.wrong_edition((2, 2), edition(("a",), (), (("self",), ("a", ()), ("self",), None)))
        self.wrong_edition((2, 1), edition(("a",), (), (("a", ()), ("a", ()))))
        self.wrong_edition((2, 2), edition(("a", "b"), (), (("a", ()), ("b", ()), ("a", (("enter", "b"),)))))


class Cleanup(Wrong):
    def test_good_rows(self):
        for rows in ((("unlisten",),), (("leave", "a"),), (("carry",),), (("carry",),) * 4,
                     (("leave", "b"), ("leave", "b"), ("unlisten",), ("unlisten",))):
            self.right_edition(edition(("a", "b"), (), (), rows))

    def test_wrong_rows(self):
        wrong = [
            (), ("unlisten", "a"), ("carry", "a"), ("leave",), ("leave", "b"), ("leave", "main"), ("leave", "c"),
            ("leave", "a", "a"), ("leave", None), ("leave", ["a"]), ("enter", "a"), ("self",), ["carry"], "carry",
            ["leave", "a"], ("other",), (None,), (["unlisten"],),
        ]
        for row in wrong + any_values():
            self.wrong("modules", (0, 0, 3, 0), modules=self.main(edition(("a",), (), (), (row, row))))
            self.wrong("modules", (0, 0, 3, 1), modules=self.main(edition(("a",), (), (), (("carry",), row))))

    def test_at_most_four_rows(self):
        self.right_edition(edition((), (), (), (("carry",),) * 4))
        self.wrong_edition((3,), edition((), (), (), (("carry",),) * 5))
        self.wrong_edition((3,), edition((), (), (), (None,) * 5))
        self.wrong_edition((3, 3), edition((), (), (), (("carry",),) * 3 + (None,)))


class TopAndMost(Wrong):
    def test_top_is_the_name_of_a_module(self):
        self.right(top="b")
        for value in any_values() + ["c", "A", ("a",), ["b"]]:
            if value != "a":
                self.wrong("top", (), top=value)

    def test_most_is_an_integer_from_two_to_eight(self):
        for most in range(2, 9):
            self.right(most=most)
        for value in [1, 9, -2, 10 ** 3999, "5", (5,), [5]] + any_values():
            if value != 5:
                self.wrong("most", (), most=value)

    def test_most_is_five_unless_it_is_passed(self):
        self.assertEqual(Graph(WORDS, EVENTS, OTHERS, "a").most, 5)

    def test_most_is_passed_by_keyword_only(self):
        with self.assertRaises(TypeError):
            Graph(WORDS, EVENTS, OTHERS, "a", 5)


class OrderOfChecks(Wrong):
    def test_the_first_wrong_argument_counts(self):
        wrong = [("words", ()), ("events", ()), ("modules", ()), ("top", ()), ("most", ())]
        for first in range(5):
            arguments = {part: None for part, _ in wrong[first:]}
            self.wrong(*wrong[first], **arguments)
            for second in range(first + 1, 5):
                self.wrong(*wrong[first], **{wrong[first][0]: None, wrong[second][0]: None})

    def test_starts_come_last(self):
        modules = (("a", (edition(("b",), (("enter", "b"),) * 3),)), ("b", (PLAIN,)))
        self.wrong("starts", (0, 0), modules=modules, most=2)
        self.wrong("most", (), modules=modules, most=1)
        self.wrong("top", (), modules=modules, most=2, top="c")
        self.wrong("words", (0,), modules=modules, most=2, words=(None,))


class Starts(Wrong):
    """The first sources, in ascending order, of which the start exceeds most."""

    def test_instances(self):
        both = edition(("b", "c"))
        modules = (("a", (PLAIN, edition(("b",)), both)), ("b", (PLAIN, edition(("c",)))), ("c", (PLAIN,)))
        self.right(modules=modules, most=3)
        self.wrong("starts", (1, 1, 0), modules=modules, most=2)
        self.wrong("starts", (2, 0, 0), modules=(("a", (PLAIN, PLAIN, both)),) + modules[1:], most=2)

    def test_listeners(self):
        row = ("listen", "tick", "b")
        held = ("listenheld", "tock", "h")
        one = edition(("b",), (row, held, row))
        two = edition(("b",), (row, held, row, held))
        modules = (("a", (one, two)), ("b", (PLAIN, edition((), (held,)))))
        self.right(modules=modules, most=5)
        self.wrong("starts", (1, 1), modules=modules, most=4)
        self.wrong("starts", (0, 1), modules=modules, most=3)
        self.wrong("starts", (0, 0), modules=modules, most=2)

    def test_entries(self):
        row = ("enter", "c")
        many = edition(("c", "b"), (row, row, row))
        modules = (("a", (many, PLAIN, many)), ("b", (PLAIN, edition(("c",), (row,)))), ("c", (PLAIN,)))
        self.right(modules=modules, most=4)
        self.wrong("starts", (0, 1, 0), modules=modules, most=3)
        self.wrong("starts", (1, 1, 0), modules=(("a", (PLAIN, many)),) + modules[1:], most=3)

    def test_entries_are_counted_for_each_instance(self):
        body = (("enter", "b"), ("enter", "b"), ("enter", "c"), ("enter", "c"))
        modules = (("a", (edition(("b", "c"), body),)), ("b", (PLAIN,)), ("c", (PLAIN,)))
        self.right(modules=modules, most=3)
        more = (("a", (edition(("b", "c"), body + body[:2]),)),) + modules[1:]
        self.right(modules=more, most=4)
        self.wrong("starts", (0, 0, 0), modules=more, most=3)

    def test_holds_are_not_bounded(self):
        body = tuple([("hold", "s" * (k + 1), "b") for k in range(6)])
        self.right(modules=(("a", (edition(("b",), body),)), ("b", (PLAIN,))), most=2)

    def test_modules_that_do_not_run_do_not_count(self):
        greedy = edition(("a",), (("enter", "a"),) * 6)
        self.right(modules=(("a", (PLAIN,)), ("b", (greedy,)), ("c", (greedy,))), most=2)


if __name__ == "__main__":
    unittest.main()

import copy
import unittest

from formsmith.books import read
from formsmith.flats import filled, flat_written, spelt
from formsmith.writing import written
from makers import FormMaker, good_books


def form_of(text):
    """The nodes of a piece that has such a text within; uses and bodies do not stand there."""
    return read("{piece m()}" + text + "{end}")[0][4]


def outcome_and_fill(form, values):
    return flat_written(form, values), filled(form, values)


# Forms by their texts, values, what is written, and the fill.
ROWS = (
    ("", {}, "", []),
    ("ab", {}, "ab", []),
    ("{x}", {"x": "a<b"}, "a~lb", ["a<b"]),
    ("a{x as word}b{y as number}c", {"x": "w", "y": -7}, "awb-7c", ["w", -7]),
    ("{x as quoted}{x as line}", {"x": "a\n"}, '"a^n"a~n', ["a\n", "a\n"]),
    ("{x.f.g.h}", {"x": {"f": {"g": {"h": "v"}}}}, "v", ["v"]),
    ("{for a in x}{a}{end}", {"x": []}, "", [[]]),
    ("{for a in x}{a}{between}, {end}", {"x": ["1"]}, "1", [[["1"]]]),
    ("{for a in x}{a}{between}, {end}", {"x": ["1", "2", "3"]}, "1, 2, 3", [[["1"], ["2"], ["3"]]]),
    ("{for a in x}{end}", {"x": [1, 2]}, "", [[[], []]]),
    ("{for a in x}{for a in a}{a as number}{end};{end}", {"x": [[1, 2], [], [3]]}, "12;;3;", [[[[[1], [2]]], [[]], [[[3]]]]]),
    ("{if x}a{else}b{end}", {"x": True}, "a", [(True, [])]),
    ("{if x}a{else}b{end}", {"x": False}, "b", [(False, [])]),
    ("{if x}a{y}{end}{y}", {"x": True, "y": "v"}, "avv", [(True, ["v"]), "v"]),
    ("{if x}a{y}{end}{y}", {"x": False, "y": "v"}, "v", [(False, []), "v"]),
    ("{if x}{else}{if y}{for a in z}{a}{end}{end}{end}", {"x": False, "y": True, "z": ["q"]}, "q",
     [(False, [(True, [[["q"]]])])]),
    ("{x}", {"x": "v", "y": 7, "zz": [None]}, "v", ["v"]),
)

REFUSED = (
    ("a{x.f}b", {"x": {}}, "field", "a"),
    ("a{x.f}b", {"x": "f"}, "field", "a"),
    ("a{for b in x.f}{end}", {"x": [1]}, "field", "a"),
    ("a{if x.f}{end}", {"x": True}, "field", "a"),
    ("a{x as number}", {"x": "1"}, "value", "a"),
    ("a{x as number}", {"x": True}, "value", "a"),
    ("a{x as word}", {"x": "a b"}, "value", "a"),
    ("a{x}", {"x": ["t"]}, "value", "a"),
    ("a{for b in x}{end}", {"x": "abc"}, "list", "a"),
    ("a{for b in x}{end}", {"x": {}}, "list", "a"),
    ("a{if x}{end}", {"x": 1}, "truth", "a"),
    ("a{if x}{end}", {"x": "True"}, "truth", "a"),
    ("{for b in x}{b}{between}, {end}", {"x": ["1", "2", 3]}, "value", "1, 2, "),
    ("{if x}a{y.no}{else}b{end}", {"x": True, "y": 7}, "field", "a"),
)


class FlatTests(unittest.TestCase):

    def test_written_and_filled(self):
        for text, values, output, fill in ROWS:
            told = outcome_and_fill(form_of(text), values)
            self.assertEqual(told, (("written", output), ("filled", fill)), text)
            self.assertEqual(repr(told[1]), repr(("filled", fill)), text)

    def test_refused(self):
        for text, values, word, ahead in REFUSED:
            told = outcome_and_fill(form_of(text), values)
            self.assertEqual(told, (("refused", word, ahead), ("refused", word)), text)

    def test_names_with_figures(self):
        form = (
            ("loop", "v0", ("a1b2c3d4", "f2"), (("place", ("v0", "x9"), "word"), ("text", "/")), "-"),
            ("choice", ("z9", "on1"), (("place", ("z9", "on2"), "plain"),), ()),
        )
        values = {"a1b2c3d4": {"f2": [{"x9": "p"}, {"x9": "q"}]}, "z9": {"on1": True, "on2": "t"}}
        fill = [[["p"], ["q"]], (True, ["t"])]
        self.assertEqual(outcome_and_fill(form, values), (("written", "p/-q/t"), ("filled", fill)))

    def test_paths_of_any_length(self):
        for many in (1, 5, 12, 60):
            value = "v"
            for _ in range(many):
                value = {"f1": value}
            form = (("place", ("x",) + ("f1",) * many, "plain"),)
            self.assertEqual(outcome_and_fill(form, {"x": value}), (("written", "v"), ("filled", ["v"])))
            longer = (("text", "t"), ("place", ("x",) + ("f1",) * (many + 1), "plain"))
            self.assertEqual(outcome_and_fill(longer, {"x": value}), (("refused", "field", "t"), ("refused", "field")))

    def test_a_form_of_400_nodes_24_deep(self):
        inmost = (("place", ("x",), "word"),) * 377
        form = inmost
        for _ in range(23):
            form = (("choice", ("t",), form, ()),)
        told = outcome_and_fill(form, {"x": "a", "t": True})
        fill = ["a"] * 377
        for _ in range(23):
            fill = [(True, fill)]
        self.assertEqual(told, (("written", "a" * 377), ("filled", fill)))

    def test_long(self):
        form = form_of("{for a in x}{for b in x}.{b as number}{between},{end}{end}")
        # Of each outer round: itself, a loop, and two for each inner round.
        for many, word in ((30, None), (31, None), (32, "long"), (40, "long")):
            told = outcome_and_fill(form, {"x": [7] * many})
            if word is None:
                self.assertEqual(told[0], ("written", ",".join([".7"] * many) * many))
                self.assertEqual(told[1], ("filled", [[[[[7]] * many]] * many]))
            else:
                self.assertEqual((told[0][:2], told[1]), (("refused", "long"), ("refused", "long")))

    def test_just_2000_and_2001(self):
        form = form_of("{for a in x}.{between},{end}")
        told = outcome_and_fill(form, {"x": [0] * 1999})
        self.assertEqual(told, (("written", ",".join(["."] * 1999)), ("filled", [[[]] * 1999])))
        told = outcome_and_fill(form, {"x": [0] * 2000})
        self.assertEqual(told, (("refused", "long", ",".join(["."] * 1999)), ("refused", "long")))

    def test_long_ahead_of_the_others(self):
        for rest, word in (("{x.no}", "field"), ("{x}", "value"), ("{for a in t}{end}", "list"), ("{if x}{end}", "truth")):
            form = form_of("{for a in x}{end}" + rest)
            self.assertEqual(filled(form, {"x": [0] * 1998, "t": True}), ("refused", word))
            self.assertEqual(filled(form, {"x": [0] * 1999, "t": True}), ("refused", "long"))
            self.assertEqual(flat_written(form, {"x": [0] * 1999, "t": True}), ("refused", "long", ""))

    def test_a_book_without_uses_is_a_flat_form(self):
        done = 0
        for seed, book, values in good_books(300):
            if len(book) == 1:
                done += 1
                told = outcome_and_fill(book[0][4], values)
                self.assertEqual(told[0], written(book, values), seed)
                self.assertEqual(told[1][0] == "filled", told[0][0] == "written", seed)
        self.assertGreater(done, 30)

    def test_what_is_handed_in_is_the_same_behind(self):
        for text, values, output, fill in ROWS:
            before = copy.deepcopy(values)
            form = form_of(text)
            first = outcome_and_fill(form, values)
            self.assertEqual((form, values), (form_of(text), before))
            self.assertEqual(outcome_and_fill(form, values), first)

    def test_what_was_told_stays(self):
        form = form_of("{for a in x}{if a.t}{a.w}{end}{end}")
        values = {"x": [{"t": True, "w": "v"}, {"t": False, "w": "v"}]}
        told = filled(form, values)
        want = ("filled", [[[(True, ["v"])], [(False, [])]]])
        values["x"][0]["w"] = "changed"
        values["x"].append({"t": False})
        self.assertEqual(told, want)
        told[1][0].clear()
        values["x"].pop()
        values["x"][0]["w"] = "v"
        self.assertEqual(filled(form, values), want)


class SpeltTests(unittest.TestCase):

    def test_a_fill_is_spelt_as_it_was_written(self):
        for text, values, output, fill in ROWS:
            self.assertEqual(spelt(form_of(text), fill), output, text)

    def test_fills_of_what_was_written(self):
        for seed, book, values in good_books(300):
            if len(book) == 1:
                outcome, told = outcome_and_fill(book[0][4], values)
                if told[0] == "filled":
                    self.assertEqual(("written", spelt(book[0][4], told[1])), outcome, seed)

    def test_fills_with_lists_of_any_length(self):
        form = form_of("{for a in x}{a as number}{between}, {end}.")
        for many in (0, 1, 41, 2001, 5000):
            self.assertEqual(spelt(form, [[[7]] * many]), ", ".join(["7"] * many) + ".")

    def test_what_is_handed_in_is_the_same_behind(self):
        for seed in range(100):
            maker = FormMaker(seed)
            form = maker.form()
            fill = maker.fill(form)
            before = copy.deepcopy(fill)
            first = spelt(form, fill)
            self.assertEqual(spelt(form, fill), first)
            self.assertEqual(repr(fill), repr(before))


if __name__ == "__main__":
    unittest.main()

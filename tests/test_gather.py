import copy
import unittest

from formsmith.books import read
from formsmith.errors import Clash
from formsmith.flats import filled
from formsmith.gather import gathered
from formsmith.joined import joined
from makers import good_books


def form_of(text):
    return read("{piece m()}" + text + "{end}")[0][4]


def is_part(part, whole):
    """Whether all that is told is so in the values."""
    if part is None:
        return True
    if isinstance(part, dict):
        return isinstance(whole, dict) and all(field in whole and is_part(part[field], whole[field]) for field in part)
    if isinstance(part, list):
        return isinstance(whole, list) and len(part) == len(whole) and all(map(is_part, part, whole))
    return type(part) is type(whole) and part == whole


# Forms by their texts, fills, and what is gathered.
ROWS = (
    ("", [], {}), ("abc", [], {}),
    ("{x}", ["v"], {"x": "v"}), ("{x}{y as number}", ["", 0], {"x": "", "y": 0}), ("{x.f.g.h}", ["v"], {"x": {"f": {"g": {"h": "v"}}}}),
    ("{x.f}{x.g.h}{x.g.i}", ["1", "2", "3"], {"x": {"f": "1", "g": {"h": "2", "i": "3"}}}),
    ("{if x}a{else}b{end}", [(True, [])], {"x": True}), ("{if x.f}a{end}", [(False, [])], {"x": {"f": False}}),
    ("{if x}{y}{else}{z}{end}", [(True, ["v"])], {"x": True, "y": "v"}), ("{if x}{y}{else}{z}{end}", [(False, ["v"])], {"x": False, "z": "v"}),
    # loops: names that a loop binds are not told
    ("{for a in x}{a}{end}", [[]], {"x": []}), ("{for a in x}{a}{end}", [[["1"], ["2"]]], {"x": ["1", "2"]}),
    ("{for a in x.f}{a.g}{end}", [[["1"], ["2"]]], {"x": {"f": [{"g": "1"}, {"g": "2"}]}}),
    ("{for a in x}{if a.t}{a.v}{end}{end}", [[[(True, ["1"])], [(False, [])]]], {"x": [{"t": True, "v": "1"}, {"t": False}]}),
    ("{for a in x}{for b in a}{b as number}{end}{end}", [[[[[1], [2]]], [[]]]], {"x": [[1, 2], []]}),
    ("{for a in x}{for b in a.l}{b.v}{a.n}{end}{end}", [[[[["1", "n"], ["2", "n"]]]]], {"x": [{"l": [{"v": "1"}, {"v": "2"}], "n": "n"}]}),
    # things of which nothing is told
    ("{for a in x}b{end}", [[[], []]], {"x": [None, None]}), ("{for a in x}{y}{end}", [[["v"], ["v"]]], {"x": [None, None], "y": "v"}),
    ("{for a in x}{if t}{a}{end}{end}", [[[(False, [])]]], {"x": [None], "t": False}),
    ("{for a in x}{for b in a}c{end}{end}", [[[[[], []]], [[]]]], {"x": [[None, None], []]}),
    ("{for a in x}b{end}{for a in x}{a}{end}", [[[], []], [["1"], ["2"]]], {"x": ["1", "2"]}),
    ("{for a in x}{a}{end}{for a in x}b{end}", [[["1"], ["2"]], [[], []]], {"x": ["1", "2"]}),
    ("{for a in x}{a.f}{end}{for b in x}{b.g}{end}", [[["1"]], [["2"]]], {"x": [{"f": "1", "g": "2"}]}),
    # a name bound anew, and one that is a loop's in one place alone
    ("{for x in x}{x}{end}", [[["1"], ["2"]]], {"x": ["1", "2"]}), ("{for x in x}{for x in x}{x}{end}{end}", [[[[["1"]]]]], {"x": [["1"]]}),
    ("{for a in x}{a}{end}{a}", [[["1"]], "2"], {"x": ["1"], "a": "2"}), ("{a}{for a in x}{a}{end}", ["2", [["1"]]], {"x": ["1"], "a": "2"}),
    # alike things told twice
    ("{x}{x as line}", ["v", "v"], {"x": "v"}), ("{x as number}{x as number}", [7, 7], {"x": 7}), ("{x as number}{x as number}", [0, 0], {"x": 0}),
    ("{if x}{if x}{end}{end}", [(True, [(True, [])])], {"x": True}), ("{if x}{else}{if x}{end}{end}", [(False, [(False, [])])], {"x": False}),
    ("{for a in x}{y}{end}", [[["v"], ["v"], ["v"]]], {"x": [None] * 3, "y": "v"}), ("{x}{x as quoted}", ["", ""], {"x": ""}),
    ("{for a in x}{a}{end}{for a in x}{a}{end}", [[["1"]], [["1"]]], {"x": ["1"]}), ("{for a in x}{end}{for a in x}{end}", [[], []], {"x": []}),
)

CLASHES = (
    # texts, numbers, truths that are not alike
    ("{x}{x}", ["a", "b"]), ("{x}{x}", ["", "b"]), ("{x}{x}", ["a", ""]), ("{x as number}{x as number}", [1, 2]), ("{x as number}{x as number}", [0, 1]),
    ("{if x}{if x}{end}{end}", [(True, [(False, [])])]), ("{if x}{end}{if x}{end}", [(False, []), (True, [])]),
    ("{for a in x}{y}{end}", [[["1"], ["2"]]]), ("{for a in x}{a}{end}{for a in x}{a}{end}", [[["1"]], [["2"]]]), ("{x.f}{x.f}", ["a", "b"]),
    ("{for a in x}{for b in y}{b}{end}{end}", [[[[["1"]]], [[["2"]]]]]),
    # lists of unlike lengths
    ("{for a in x}{end}{for a in x}{end}", [[[]], []]), ("{for a in x}{end}{for a in x}{end}", [[], [[]]]),
    ("{for a in x}{end}{for a in x}{end}", [[[], []], [[]]]), ("{for a in x}{for b in y}c{end}{end}", [[[[[]]], [[]]]]),
    # things of unlike kinds
    ("{x}{x as number}", ["1", 1]), ("{x as number}{x}", [1, "1"]), ("{x as number}{if x}{end}", [1, (True, [])]),
    ("{if x}{end}{x as number}", [(True, []), 1]), ("{x as number}{if x}{end}", [0, (False, [])]), ("{if x}{end}{x as number}", [(False, []), 0]),
    ("{x}{if x}{end}", ["", (False, [])]), ("{x}{for a in x}{end}", ["", []]), ("{for a in x}{end}{x}", [[], ""]), ("{x}{x.f}", ["", "v"]),
    ("{x.f}{x}", ["v", "v"]), ("{x.f}{for a in x}{end}", ["v", []]), ("{for a in x}{end}{x.f}", [[], "v"]), ("{if x}{x.f}{end}", [(True, ["v"])]),
    ("{for a in x}{a}{a.f}{end}", [[["1", "2"]]]), ("{for a in x}{a.f}{for b in a}{end}{end}", [[["1", []]]]), ("{x as number}{for a in x}{end}", [0, []]),
    ("{for a in x}{a}{end}{for a in x}{a as number}{end}", [[["1"]], [[1]]]), ("{x as number}{x.f}", [0, "v"]), ("{if x}{for a in x}{end}{end}", [(True, [[]])]),
)


class GatheredTests(unittest.TestCase):

    def test_rows(self):
        for text, fill, want in ROWS:
            told = gathered(form_of(text), fill)
            self.assertEqual(told, want, text)
            self.assertTrue(is_part(told, want) and is_part(want, told), text)

    def test_clashes(self):
        for text, fill in CLASHES:
            with self.assertRaises(Clash, msg=text):
                gathered(form_of(text), fill)

    def test_paths_of_any_length(self):
        form = (("place", ("x1",) + ("f2",) * 900, "plain"),)
        told = gathered(form, ["v"])
        for _ in range(900):
            told = told["x1" if "x1" in told else "f2"]
        self.assertEqual(told, {"f2": "v"})

    def test_lists_of_any_length(self):
        form = form_of("{for a in x}{a.f as number}{end}")
        self.assertEqual(gathered(form, [[[k] for k in range(3000)]]), {"x": [{"f": k} for k in range(3000)]})

    def test_what_is_gathered_is_a_part_of_the_values(self):
        done = 0
        for seed, book, values in good_books(400):
            form = joined(book)
            told = filled(form, values)
            if told[0] == "filled":
                done += 1
                self.assertTrue(is_part(gathered(form, told[1]), values), seed)
        self.assertGreater(done, 200)

    def test_what_is_handed_in_is_the_same_behind(self):
        for text, fill, want in ROWS:
            before = copy.deepcopy(fill)
            form = form_of(text)
            first = gathered(form, fill)
            self.assertEqual((repr(fill), form), (repr(before), form_of(text)))
            self.assertEqual(gathered(form, fill), first)

    def test_what_was_told_stays(self):
        form = form_of("{for a in x}{a.f}{for b in a.g}{b}{end}{end}")
        fill = [[["1", [["p"], ["q"]]]]]
        told = gathered(form, fill)
        want = {"x": [{"f": "1", "g": ["p", "q"]}]}
        fill[0][0][1].pop()
        fill[0].append(["2", []])
        self.assertEqual(told, want)
        told["x"][0]["g"].clear()
        self.assertEqual(fill, [[["1", [["p"]]], ["2", []]]])
        self.assertEqual(gathered(form, fill), {"x": [{"f": "1", "g": ["p"]}, {"f": "2", "g": []}]})


if __name__ == "__main__":
    unittest.main()

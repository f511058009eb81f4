import copy
import unittest

from formsmith.books import read
from formsmith.errors import BadValues
from formsmith.writing import written
from makers import good_books

HUGE = 10 ** 3999

# Books by their texts, values for them, and the outcome.
ROWS = (
    # texts and places
    ("{piece m()}{end}", {}, ("written", "")),
    ("{piece m()}a{(}b{)}\n{end}", {}, ("written", "a{b}\n")),
    ("{piece m(x)}[{x}]{end}", {"x": "a<b"}, ("written", "[a~lb]")),
    ("{piece m(x)}{x as word}{x as quoted}{x as line}{x}{end}", {"x": "ab"}, ("written", 'ab"ab"abab')),
    ("{piece m(x)}{x as number}{end}", {"x": -42}, ("written", "-42")),
    ("{piece m(x)}{x.a.b.c}{end}", {"x": {"a": {"b": {"c": "deep"}}}}, ("written", "deep")),
    ("{piece m(x, y)}{y}{x}{y}{end}", {"x": "1", "y": "2"}, ("written", "212")),
    # loops
    ("{piece m(x)}<{for y in x}{y}{end}>{end}", {"x": []}, ("written", "<>")),
    ("{piece m(x)}<{for y in x}{y}{between}, {end}>{end}", {"x": []}, ("written", "<>")),
    ("{piece m(x)}<{for y in x}{y}{between}, {end}>{end}", {"x": ["a"]}, ("written", "<a>")),
    ("{piece m(x)}<{for y in x}{y}{between}, {end}>{end}", {"x": ["a", "b", "c"]}, ("written", "<a, b, c>")),
    ("{piece m(x)}<{for y in x}{y}{end}>{end}", {"x": ["a", "b", "c"]}, ("written", "<abc>")),
    ("{piece m(x)}{for y in x}{between}-{end}{end}", {"x": [1, 2, 3]}, ("written", "--")),
    ("{piece m(x)}{for y in x.l}{y.f}{for z in y.g}{z as number}{between};{end}{between}|{end}{end}",
     {"x": {"l": [{"f": "a", "g": [1, 2]}, {"f": "b", "g": []}, {"f": "c", "g": [3]}]}}, ("written", "a1;2|b|c3")),
    ("{piece m(x)}{for x in x}{for x in x}{x}{end}.{end}{end}", {"x": [["a", "b"], [], ["c"]]}, ("written", "ab..c.")),
    ("{piece m(x)}{for y in x}{end}{for y in x}{y}{end}{end}", {"x": ["a", "b"]}, ("written", "ab")),
    # choices
    ("{piece m(x)}{if x}yes{else}no{end}{end}", {"x": True}, ("written", "yes")),
    ("{piece m(x)}{if x}yes{else}no{end}{end}", {"x": False}, ("written", "no")),
    ("{piece m(x)}a{if x}yes{end}b{end}", {"x": False}, ("written", "ab")),
    ("{piece m(x)}{if x.y}{for x in x.z}{x}{end}{end}{end}", {"x": {"y": True, "z": ["q"]}}, ("written", "q")),
    # uses
    ("{piece p()}in{end}{piece m()}a{use p()}b{use p()}{end}", {}, ("written", "ainbin")),
    ("{piece p(a, b)}{a}-{b}{end}{piece m(x)}{use p(x.b, x.a)}{end}", {"x": {"a": "1", "b": "2"}}, ("written", "2-1")),
    ("{piece p(a)}{a.f.g}{end}{piece m(x)}{use p(x.e)}{end}", {"x": {"e": {"f": {"g": "v"}}}}, ("written", "v")),
    ("{piece p(a)}{a.b}{end}{piece q(a)}{use p(a.c)}{end}{piece m(a)}{use q(a.d)}{end}",
     {"a": {"d": {"c": {"b": "v"}}}}, ("written", "v")),
    ("{piece p(a)}{for b in a}{b}{end}{end}{piece m(x)}{for a in x}{use p(a)}{between}/{end}{end}",
     {"x": [["a", "b"], ["c"]]}, ("written", "ab/c")),
    # names mean another thing within a piece than at its use
    ("{piece p(x, y)}{x}{y}{end}{piece m(x, y)}{use p(y, x)}{x}{y}{end}", {"x": "1", "y": "2"}, ("written", "2112")),
    ("{piece p(y)}{for x in y}{x}{y.f}{end}{end}{piece m(x)}{for y in x}{use p(y)}{end}{end}", {"x": [[]]}, ("written", "")),
    ("{piece p(y)}{for x in y.l}{x}{y.f}{end}{end}{piece m(x)}{use p(x)}{x.f}{end}",
     {"x": {"l": ["1", "2"], "f": "-"}}, ("written", "1-2--")),
    # a path that leads nowhere, handed in but never wanted
    ("{piece p(a, b)}{b}{end}{piece m(x)}{use p(x.no.no, x.y)}{end}", {"x": {"y": "v"}}, ("written", "v")),
    ("{piece p(a, b)}{if b}{else}{a}{end}{end}{piece m(x)}{use p(x.no, x.y)}{end}", {"x": {"y": True}}, ("written", "")),
    ("{piece p(a)}{for b in a}{b}{end}{end}{piece m(x)}t{use p(x.no)}u{end}", {"x": {}}, ("refused", "field", "t")),
    ("{piece p(a) body 1}{body(a.no)}{end}{piece m(x)}{use p(x.no) with b}t{end}{end}", {"x": 7}, ("written", "t")),
    # bodies
    ("{piece p() body 0}[{body()}|{body()}]{end}{piece m(x)}{use p() with }{x}{end}{end}", {"x": "v"}, ("written", "[v|v]")),
    ("{piece p() body 0}[{body()}]{end}{piece m()}{use p() with }{end}{end}", {}, ("written", "[]")),
    ("{piece p() body 0}t{end}{piece m(x)}{use p() with }{x.no}{end}{end}", {"x": "v"}, ("written", "t")),
    ("{piece p(l) body 1}{for e in l}{body(e)}{between}, {end}{end}{piece m(x, e)}{use p(x) with k}{k.n}={e}{end}{end}",
     {"x": [{"n": "a"}, {"n": "b"}], "e": "outer"}, ("written", "a=outer, b=outer")),
    ("{piece p(a) body 2}{body(a.f, a.g)}{end}{piece m(a)}{use p(a.h) with b, c}{c}{b}{a.k}{end}{end}",
     {"a": {"h": {"f": "1", "g": "2"}, "k": "3"}}, ("written", "213")),
    # a body's own name hides the user's; behind it the user's is back
    ("{piece p(a) body 1}{body(a.f)}{end}{piece m(x)}{use p(x) with x}{x}{end}{x.f}{end}", {"x": {"f": "v"}},
     ("written", "vv")),
    # in a body names stand for what they stood for at the use
    ("{piece p(l) body 0}{for x in l}{body()}{end}{end}{piece m(x, l)}{use p(l) with }{x}{end}{end}",
     {"x": "o", "l": ["1", "2"]}, ("written", "oo")),
    ("{piece p(l) body 1}{for x in l}{body(x)}{end}{end}{piece m(l)}{for x in l}{use p(x) with y}{y}{end}.{end}{end}",
     {"l": [["a", "b"], ["c"]]}, ("written", "ab.c.")),
    # a body handed on within another use's body
    ("{piece p(a) body 1}<{body(a)}>{end}{piece q(b) body 1}{use p(b.f) with c}{body(c.g)}{end}{end}"
     "{piece m(x)}{use q(x) with d}{d}{x.k}{end}{end}",
     {"x": {"f": {"g": "v"}, "k": "w"}}, ("written", "<vw>")),
    ("{piece p() body 0}({body()}){end}{piece q() body 0}[{use p() with }{body()}{end}]{end}"
     "{piece m(x)}{use q() with }{use p() with }{x}{end}{end}{end}", {"x": "v"}, ("written", "[((v))]")),
    ("{piece p() body 0}({body()}{body()}){end}{piece q() body 0}{use p() with }{use p() with }{body()}{end}{end}{end}"
     "{piece m(x)}{use q() with }{x}{end}{end}", {"x": "v"}, ("written", "((vv)(vv))")),
    # refused, with what was written ahead
    ("{piece m(x)}a{x.y}b{end}", {"x": {}}, ("refused", "field", "a")),
    ("{piece m(x)}a{x.y}b{end}", {"x": "t"}, ("refused", "field", "a")),
    ("{piece m(x)}a{x.y.z}b{end}", {"x": {"y": [{"z": "t"}]}}, ("refused", "field", "a")),
    ("{piece m(x)}a{for y in x.y}{end}{end}", {"x": {}}, ("refused", "field", "a")),
    ("{piece m(x)}a{if x.y}{end}{end}", {"x": [True]}, ("refused", "field", "a")),
    ("{piece m(x)}a{x}b{end}", {"x": 7}, ("refused", "value", "a")),
    ("{piece m(x)}{x}{end}", {"x": True}, ("refused", "value", "")),
    ("{piece m(x)}a{x as word}{end}", {"x": "a b"}, ("refused", "value", "a")),
    ("{piece m(x)}a{x as word}{end}", {"x": ""}, ("refused", "value", "a")),
    ("{piece m(x)}a{x as number}{end}", {"x": "7"}, ("refused", "value", "a")),
    ("{piece m(x)}a{x as number}{end}", {"x": True}, ("refused", "value", "a")),
    ("{piece m(x)}a{x as quoted}{end}", {"x": []}, ("refused", "value", "a")),
    ("{piece m(x)}a{x as line}{end}", {"x": {}}, ("refused", "value", "a")),
    ("{piece m(x)}a{for y in x}{end}{end}", {"x": "abc"}, ("refused", "list", "a")),
    ("{piece m(x)}a{for y in x}{end}{end}", {"x": {}}, ("refused", "list", "a")),
    ("{piece m(x)}a{for y in x}{end}{end}", {"x": False}, ("refused", "list", "a")),
    ("{piece m(x)}a{if x}{end}{end}", {"x": 1}, ("refused", "truth", "a")),
    ("{piece m(x)}a{if x}{end}{end}", {"x": 0}, ("refused", "truth", "a")),
    ("{piece m(x)}a{if x}{end}{end}", {"x": ""}, ("refused", "truth", "a")),
    ("{piece m(x)}a{if x}{end}{end}", {"x": []}, ("refused", "truth", "a")),
    ("{piece m(x)}<{for y in x}{y}{between}, {end}>{end}", {"x": ["a", "b", 3, "d"]}, ("refused", "value", "<a, b, ")),
    ("{piece p(a)}[{a}]{end}{piece m(x)}({use p(x)}){end}", {"x": 1}, ("refused", "value", "([")),
    ("{piece p(a) body 0}[{body()}{a}]{end}{piece m(x)}{use p(x) with }({x.y}){end}{end}", {"x": {}},
     ("refused", "field", "[(")),
)


class WrittenTests(unittest.TestCase):

    def test_outcomes(self):
        for text, values, want in ROWS:
            self.assertEqual(written(read(text), values), want, text)

    def test_what_is_handed_in_is_the_same_behind(self):
        for text, values, want in ROWS:
            before = copy.deepcopy(values)
            book = read(text)
            first = written(book, values)
            self.assertEqual((values, book), (before, read(text)))
            self.assertEqual(written(book, values), first)

    def test_values_handed_in_may_be_shared(self):
        shared = ["a", "b"]
        told = written(read("{piece m(x, y)}{for z in x}{z}{end}{for z in y}{z}{end}{end}"), {"x": shared, "y": shared})
        shared.append("c")
        self.assertEqual(told, ("written", "abab"))

    def test_books_of_every_sort_are_asked_again(self):
        for seed, book, values in good_books(150):
            before = copy.deepcopy(values)
            self.assertEqual(written(book, values), written(book, before), seed)
            self.assertEqual(repr(values), repr(before), seed)

    def test_pieces_of_six_names(self):
        names = ("a", "b", "c", "d", "e", "f")
        paths = tuple((name,) for name in names)
        places = tuple(("place", path, "plain") for path in paths)
        elder = ("piece", "p", names, 6, places + (("body", paths[::-1]),))
        main = ("piece", "m", names, None, (("use", "p", paths, names, places),))
        self.assertEqual(written((elder, main), {name: name for name in names}), ("written", "abcdeffedcba"))


class CountTests(unittest.TestCase):

    def check(self, text, values, want):
        self.assertEqual(written(read(text), values), want)

    def test_rounds_and_places(self):
        # A loop, forty rounds, and in each a loop of forty rounds: 1 + 40 + 40 + 1600.
        head = "{piece m(x, y)}{for a in x}{for b in x}.{end}{end}"
        x = [[]] * 40
        self.check(head + "{for c in y}{x.no}{end}{end}", {"x": x, "y": []}, ("written", "." * 1600))
        places = "{for c in y}{c}{c}{c}{c}{c}{c}{end}"
        # 1681, and a loop with rounds of six places each.
        self.check(head + places + "{end}", {"x": x, "y": ["!"] * 40}, ("written", "." * 1600 + "!" * 240))
        more = "{for c in y}{c}{c}{c}{c}{c}{c}{c}{between},{end}"
        # 1682 and eight for each round: the 40th round's seventh place would be the 2002nd.
        self.check(head + more + "{end}", {"x": x, "y": ["!"] * 40}, ("refused", "long", "." * 1600 + "!!!!!!!," * 39 + "!!!!!"))

    def at_1995(self, rest, values):
        """The outcome of what stands behind 1995 things that counted, and that wrote nothing."""
        # A loop of 38 rounds with a loop of 38 rounds in each counts 1 + 38 + 38 + 1444 = 1521.
        # A loop of 39 rounds with 10 choices in each counts 1 + 39 + 390 = 430, one of 21 with one in each 43.
        head = "{piece m(r, t, w)}{for a in r.x}{for b in r.x}{end}{end}{for a in r.y}" + "{if t}{end}" * 10 + "{end}"
        head = head + "{for a in r.z}{if t}{end}{end}{if t}{end}"
        values = dict({"r": {"x": [0] * 38, "y": [0] * 39, "z": [0] * 21}, "t": True}, **values)
        return written(read(head + rest + "{end}"), values)

    def test_just_2000_and_2001(self):
        t = "{if t}{end}"
        rows = (
            # Each of these counts once, or is the 2001st.
            (t * 5, ("written", "")), (t * 6, ("refused", "long", "")),
            (t * 4 + "{w}", ("written", "v")), (t * 5 + "{w}", ("refused", "long", "")),
            (t * 5 + "ab", ("written", "ab")), (t * 5 + "ab{w}c", ("refused", "long", "ab")),
            (t * 5 + "{if t}a{else}b{end}", ("refused", "long", "")),
        )
        for rest, want in rows:
            self.assertEqual(self.at_1995(rest, {"w": "v"}), want, rest)

    def test_loops_and_rounds_at_2000(self):
        t = "{if t}{end}"
        loop = "{for a in w}({a}){between}, {end}"
        rows = (
            (t * 4 + loop, [], ("written", "")), (t * 5 + loop, [], ("refused", "long", "")),
            (t * 2 + loop, ["v"], ("written", "(v)")), (t * 3 + loop, ["v"], ("refused", "long", "(")),
            (t * 4 + loop, ["v"], ("refused", "long", "")),
            (loop, ["v", "w"], ("written", "(v), (w)")), (t + loop, ["v", "w"], ("refused", "long", "(v), (")),
            # A round counts ahead of what stands between being written.
            (t * 2 + loop, ["v", "w"], ("refused", "long", "(v)")),
        )
        for rest, things, want in rows:
            self.assertEqual(self.at_1995(rest, {"w": things}), want, (rest, things))

    def test_texts_uses_and_bodies_do_not_count(self):
        head = "{piece p() body 0}{body()}{body()}{end}{piece m(x)}{for a in x}{for b in x}"
        self.check(head + "t{use p() with }.{end}{end}{end}{end}", {"x": [0] * 40}, ("written", "t.." * 1600))

    def test_long_is_told_ahead_of_the_others(self):
        t = "{if t}{end}"
        for rest, word in (("{w.no}", "field"), ("{w as number}", "value"), ("{for a in w}{end}", "list"), ("{if w}{end}", "truth")):
            self.assertEqual(self.at_1995(t * 4 + rest, {"w": "v"}), ("refused", word, ""))
            self.assertEqual(self.at_1995(t * 5 + rest, {"w": "v"}), ("refused", "long", ""))


class BadValuesTests(unittest.TestCase):

    def refuses(self, text, values):
        with self.assertRaises(BadValues):
            written(read(text), values)

    def test_no_dict(self):
        for thing in (None, [], (), "", "x", 0, HUGE, True, ["x"], [("x", "v")], object(), {"x"}):
            self.refuses("{piece m(x)}{end}", thing)
            self.refuses("{piece m()}{end}", thing)

    def test_just_mains_names(self):
        text = "{piece p(a, b)}{end}{piece m(x, y)}{end}"
        self.assertEqual(written(read(text), {"y": 1, "x": 2}), ("written", ""))
        for values in ({}, {"x": 1}, {"y": 1}, {"x": 1, "y": 2, "z": 3}, {"a": 1, "b": 2}, {"x": 1, "Y": 2}, {"x": 1, 7: 2}):
            self.refuses(text, values)

    def test_no_values(self):
        for thing in (None, (), 1.5, "\t", "x" * 401, 10 ** 30, HUGE, [None], {"A": 1}, {1: 1}, [1] * 41, [[[[[[1]]]]]]):
            self.refuses("{piece m(x)}{end}", {"x": thing})
        self.assertEqual(written(read("{piece m(x)}{end}"), {"x": [[[[[1]]]]]}), ("written", ""))


if __name__ == "__main__":
    unittest.main()

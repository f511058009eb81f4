import unittest

from formsmith.back import read_back
from formsmith.books import read
from formsmith.clear import unclear
from formsmith.flats import spelt
from formsmith.signs import signs
from formsmith.ways import way_of
from makers import WAYS, FormMaker


def form_of(text):
    return read("{piece m()}" + text + "{end}")[0][4]


# Forms by their texts, and the way to the first node that is not clear.
ROWS = (
    ("", None), ("abc", None),
    # a place and what follows it
    ("{x as word}", None), ("{x as number}", None), ("{x as quoted}", None), ("{x}", None), ("{x as line}", None),
    ("{x as word}a", (0,)), ("{x as word}Z", (0,)), ("{x as word}0", (0,)), ("{x as word} a", None), ("{x as word}-", None),
    ("{x as number}1", (0,)), ("{x as number}-1", None), ("{x as number}a", None),
    ("{x as quoted}a", None), ("{x as quoted}{y as quoted}", None), ("{x as quoted}\n", None),
    ("{x}a", (0,)), ("{x}~", (0,)), ("{x}<", None), ("{x}>", None), ("{x}&", None), ("{x}|", None), ("{x}\n", None),
    ("{x as line}a", (0,)), ("{x as line}<", (0,)), ("{x as line}\n", None),
    ("{x as word}{y as word}", (0,)), ("{x as word}{y as quoted}", None), ("{x as quoted}{y as word}", None),
    ("{x as number}{y as number}", (0,)), ("{x as number}{y as word}", (0,)), ("{x as number}{y as quoted}", None),
    ("{x}{y}", (0,)), ("{x}<{y}", None), ("{x}<{y}a", (2,)), ("{x as line}\n{y as line}", None),
    # what follows behind nodes that may be empty
    ("{x as word}{for a in y}-{end}b", (0,)), ("{x as word}{for a in y}-{end}.", None), ("{x as word}{for a in y}b{end}.", (0,)),
    ("{x as word}{if y}-{end}b", (0,)), ("{x as word}{if y}-{else}+{end}b", None), ("{x as word}{if y}-{else}c{end}b", (0,)),
    ("{x}{for a in y}<{end}{if y}>{end}b", (0,)), ("{x}{for a in y}<{end}{if y}>{end}|", None),
    ("{x}{for a in y}<{end}{if y}>{end}", None), ("{x as word}{for a in y}-{end}{if y}={else}z{end}", (0,)),
    # a loop's nodes may not be empty
    ("{for a in x}{end}", (0,)), ("{for a in x}{a}{end}", (0,)), ("{for a in x}{a as line}{between}\n{end}", (0,)),
    ("{for a in x}{if a}b{end}{between},{end}", (0,)), ("{for a in x}{for b in a}c{end}{between},{end}", (0,)),
    ("{for a in x}{if a}b{else}c{end}{between},{end}", None), ("{for a in x}{for b in a}c{end};{end}", None),
    ("{for a in x}{a}\n{end}", None), ("{for a in x}{a}<{between},{end}", None),
    # what they begin with may not follow the loop
    ("{for a in x}b{end}", None), ("{for a in x}b{end}b", (0,)), ("{for a in x}b{end}c", None), ("{for a in x}bc{end}c", None),
    ("{for a in x}b{end}{for a in x}b{end}", (0,)), ("{for a in x}b{end}{for a in x}c{end}", None),
    ("{for a in x}b{end}{for a in x}c{end}b", (0,)), ("{for a in x}b{end}{for a in x}c{end}c", (1,)),
    ("{for a in x}{if a}b{else}c{end}{end}c", (0,)), ("{for a in x}{for b in a}c{end}b{end}c", (0,)),
    ("{for a in x}{for b in a}c{end}b{end}b", (0,)), ("{for a in x}{for b in a}c{end}b{end}d", None),
    ("{for a in x}{a as quoted}{end}\"", (0,)), ("{for a in x}{a as quoted}{end}.", None),
    # nor BETWEEN's first sign
    ("{for a in x}b{between},{end},", (0,)), ("{for a in x}b{between},;{end};", None), ("{for a in x}b{between},{end}b", (0,)),
    ("{for a in x}b{between}b{end}", None), ("{for a in x}b{between},{end}{for a in x},{end}", (0,)),
    ("{for a in x}b{between},{end}{for a in x};{end}", None), ("{for a in x}b{between},{end}{for a in x};{end},", (0,)),
    # a place within a loop is followed by BETWEEN, by the nodes themselves, and by what follows the loop
    ("{for a in x}{a as word}{end}", (0, 0)), ("{for a in x}{a as word};{end}", None), ("{for a in x};{a as word}{end}", None),
    ("{for a in x}{a as word}{between},b{end}", None), ("{for a in x}<{a}{between}|b{end}", None),
    ("{for a in x}{a as word}{between},{end}", None), ("{for a in x}{a as word}{between}b{end}", (0, 0)),
    ("{for a in x}{a as word}{between},{end}.", None), ("{for a in x}{a as number}{between},{end}b", None),
    ("{for a in x}<{a}{between},{end}", (0, 1)), ("{for a in x}<{a}{between}|{end}", None), ("{for a in x}<{a}{end}", None),
    ("{for a in x}<{a}{between}|{end}c", (0, 1)), ("{for a in x}<{a}{between}|{end}\n", None), ("{for a in x}b{a}{end}", (0, 1)),
    ("{for a in x}<{a}{end}{if y}>{end}c", (0, 1)),
    # a loop within a loop
    ("{for a in x}({for b in a}c{between},{end}{between},{end}", (0, 1)),
    ("{for a in x}({for b in a}c{between},{end}{between};{end}", None),
    ("{for a in x}({for b in a}({end}{end}", (0, 1)), ("{for a in x}({for b in a}({end}{between};{end}", None),
    ("{for a in x}({for b in a}c{end}{between}c{end}", (0, 1)), ("{for a in x}({for b in a}c{end}{between};{end}c", (0, 1)),
    ("{for a in x}({for b in a}c{end}{end}", None), ("{for a in x}({for b in a}{b as word}{end}){end}", (0, 1, 0)),
    # choices: no beginning in common
    ("{if x}a{else}b{end}", None), ("{if x}a{else}ab{end}", (0,)), ("{if x}ab{else}cb{end}", None),
    ("{if x}{y as word}{else}-{end}", None), ("{if x}{y as word}{else}{y as number}{end}", (0,)),
    ("{if x}{y as quoted}{else}{y as number}{end}", None), ("{if x}{if y}a{else}b{end}{else}{if y}c{else}b{end}{end}", (0,)),
    ("{if x}{if y}a{else}b{end}{else}{if y}c{else}d{end}{end}", None), ("{if x}{y}{else}<{end}", None), ("{if x}{y}{else}b{end}", (0,)),
    # what may follow counts as a beginning of a side that may be empty
    ("{if x}a{end}", None), ("{if x}a{end}b", None), ("{if x}a{end}a", (0,)), ("{if x}{else}a{end}b", None), ("{if x}{else}a{end}a", (0,)),
    ("{if x}{for y in z}a{end}{else}b{end}b", (0,)), ("{if x}{for y in z}a{end}{else}b{end}c", None),
    ("{if x}b{else}{for y in z}a{end}{end}b", (0,)), ("{if x}b{else}{for y in z}a{end}{end}", None),
    ("{if x}{y}{else}<{end}<", (0,)), ("{if x}{y}{else}<{end}>", None), ("{if x}a{end}{if x}a{end}", (0,)),
    ("{if x}a{end}{if x}b{end}a", (0,)), ("{if x}a{end}{if x}b{end}b", (1,)), ("{if x}a{end}{if x}b{end}c", None),
    # the text's end too: both sides may be empty
    ("{if x}{end}", (0,)), ("{if x}{end}b", (0,)), ("{if x}{if y}a{end}{else}{if y}b{end}{end}", (0,)),
    ("{if x}{for y in z}a{end}{else}{for y in z}b{end}{end}", (0,)), ("{if x}{y as line}{else}{end}", (0,)),
    ("{if x}{for y in z}a{end}{else}{for y in z}b{end}c{end}", None),
    # within both sides, with what follows the choice
    ("{if x}<{y}{end}<", (0,)), ("{if x}a{y}{end}<", None), ("{if x}a{y}{end}b", (0, 0, 1)), ("{if x}{else}a{y}{end}b", (0, 1, 1)),
    ("{if x}a{y}{else}b{end}|", None), ("{if x}a{else}b{y}c{end}", (0, 1, 1)), ("{if x}a{for b in y}c{end}{else}b{end}c", (0, 0, 1)),
    ("{if x}a{for b in y}c{end}{else}b{end}d", None), ("{if x}a{if y}c{end}{else}b{if y}d{end}{end}d", (0, 1, 1)),
    ("{if x}a{if y}c{end}{else}b{if y}d{end}{end}c", (0, 0, 1)), ("{if x}a{if y}c{end}{else}b{if y}d{end}{end}e", None),
    ("{for a in x}[{if a}b{a}{end}{between}c{end}", (0, 1, 0, 1)), ("{for a in x}[{if a}b{a}{end}{between}<{end}", None),
    ("{for a in x}[{if a}b{else}<{a as line}]{end}{between}c{end}", (0, 1, 1, 1)),
    ("{for a in x}{if a}b{else}c{end}{end}", None), ("{for a in x}[{if a}b{else}c{end}{between}b{end}", None),
    ("{for a in x}[{if a}b{end}{between}b{end}", (0, 1)), ("{for a in x}[{if a}[{end}{end}", (0, 1)),
    # each node ahead of those within it, and the first one
    ("{if x}{y}a{else}{y}a{end}", (0,)), ("{for a in x}{a}b{end}b", (0,)), ("{for a in x}<{a}b{end}{y}c", (0, 1)),
    ("b{y}c{for a in x}{end}", (1,)), ("b{if x}<{y}a{else}>{y}a{end}", (1, 0, 1)), ("b{if x}<{y}|{else}>{y}a{end}{y}a", (1, 1, 1)),
    ("{for a in x}<{if a}{y}{else}|{end}{end}", None), ("{for a in x}<{if a}({y}{else}|{end}){end}{y}a", (0, 1, 0, 1)),
)


class UnclearTests(unittest.TestCase):

    def test_rows(self):
        for text, want in ROWS:
            self.assertEqual(unclear(form_of(text)), want, text)

    def test_each_sign_behind_a_place(self):
        for way in WAYS:
            ends = way_of(way).ends()
            for sign in signs():
                want = None if sign in ends else (0,)
                place = ("place", ("x",), way)
                self.assertEqual(unclear((place, ("text", sign))), want, (way, sign))
                between = ("loop", "v0", ("x",), (("text", "\n"), place), sign)
                self.assertEqual(unclear((between,)), None if want is None else (0, 1), (way, sign))

    def test_24_deep(self):
        for sign, want in (("a", (1, 0) + (2, 0) * 22 + (1,)), (" ", None)):
            form = (("place", ("x",), "word"), ("text", sign))
            for _ in range(23):
                form = (("text", "<"), ("choice", ("x",), (("text", ">"),) + form, ()))
            self.assertEqual(unclear(form), want)

    def test_what_is_clear_is_read_back(self):
        found = 0
        for seed in range(600):
            maker = FormMaker(seed)
            form = maker.form()
            if unclear(form) is None:
                found += 1
                fill = maker.fill(form)
                self.assertEqual(read_back(form, spelt(form, fill)), fill)
        self.assertGreater(found, 100)

    def test_asked_again_the_same_is_told(self):
        for seed in range(200):
            form = FormMaker(seed).form()
            before = repr(form)
            self.assertEqual(unclear(form), unclear(form))
            self.assertEqual(repr(form), before)


if __name__ == "__main__":
    unittest.main()

import contextlib
import copy
import unittest
from unittest import mock

from formsmith import press as press_module
from formsmith.books import read
from formsmith.clear import unclear
from formsmith.errors import BadName, BadText, BadValues, BadWay, Clash, FormError, NoFill, TooMany, Unclear
from formsmith.flats import filled
from formsmith.gather import gathered
from formsmith.joined import joined
from formsmith.press import checked, press, pressed_back
from formsmith.showing import shown
from formsmith.signs import signs
from formsmith.writing import written
from makers import good_books

WAYS = ("tree", "form", "rows", "short")
HUGE = 10 ** 3999


def nested(thing, many):
    for k in range(many):
        thing = [thing] if k % 2 else {"a": thing}
    return thing


NO_TEXTS = (None, 0, HUGE, True, False, [], ["{piece m()}{end}"], (), {}, {"a": "b"}, 1.5, b"{piece m()}{end}", object(), nested([], 59))
NO_WAYS = NO_TEXTS + ("", "Tree", "tree ", "trees", "row", "shortened", "plain", "word", ["tree"], ("tree",), {"tree": "tree"})

GOOD = "{piece p(a)}{a.n}|{end}{piece m(x)}{for y in x}{use p(y)}{between};{end}{end}"
GOOD_VALUES = {"x": [{"n": "1"}, {"n": "2"}]}
BAD_TEXT = "{piece m(x)}{end"
BAD_NAME = "{piece m(x)}t{y}{end}"
BAD_NAME_AND_TOO_MANY = "{piece p(x)}" + "{x}" * 99 + "{end}{piece m(x)}" + "{use p(x)}" * 4 + "{x}{y}{end}"
TOO_MANY = "{piece p(x)}" + "{x}" * 99 + "{end}{piece m(x)}" + "{use p(x)}" * 4 + "{x}{end}"
NOT_CLEAR = "{piece m(x)}a{x}b{end}"


def refusal(call, *things):
    """The class and the at of what a call is refused with."""
    try:
        call(*things)
    except FormError as error:
        return (type(error), getattr(error, "at", "no at"))
    return None


class PressTests(unittest.TestCase):

    def test_each_way(self):
        for way in WAYS:
            self.assertEqual(press(GOOD, GOOD_VALUES, way), ("written", "1|;2|"), way)
            self.assertEqual(press(GOOD, {"x": [{"n": "1"}, {"n": 2}]}, way), ("refused", "value", "1|;"), way)
            self.assertEqual(press("{piece m()}{end}", {}, way), ("written", ""), way)
        self.assertEqual(press(GOOD, GOOD_VALUES), ("written", "1|;2|"))
        self.assertEqual(press(GOOD, GOOD_VALUES, way="rows"), ("written", "1|;2|"))

    def test_each_way_goes_by_its_own_part(self):
        parts = {"tree": ("written",), "form": ("joined", "flat_written"), "rows": ("compiled", "run"), "short": ("compiled", "shortened", "run")}
        names = sorted({name for row in parts.values() for name in row})
        for way in WAYS:
            called = []

            def watched(name):
                real = getattr(press_module, name)
                return lambda *things: called.append(name) or real(*things)

            with contextlib.ExitStack() as stack:
                for name in names:
                    stack.enter_context(mock.patch.object(press_module, name, watched(name)))
                self.assertEqual(press(GOOD, GOOD_VALUES, way), ("written", "1|;2|"))
            self.assertEqual(tuple(called), parts[way])
        with mock.patch.object(press_module, "written", lambda book, values: "by trees"):
            self.assertEqual(press(GOOD, GOOD_VALUES), "by trees")

    def test_values_by_their_names(self):
        text = "{piece m(b, a, c)}{a}{b}{c}{end}"
        for way in WAYS:
            self.assertEqual(press(text, {"c": "3", "a": "1", "b": "2"}, way), ("written", "123"))

    def test_one_and_the_same_outcome(self):
        refused = 0
        for seed, book, values in good_books(300, 0.04):
            text = shown(book)
            if len(text) <= 4000:
                outcome = written(book, values)
                refused += outcome[0] == "refused"
                for way in WAYS:
                    self.assertEqual(press(text, values, way), outcome, (seed, way))
                self.assertEqual(press(text, values), outcome)
        self.assertGreater(refused, 30)

    def test_each_of_the_five_words_by_each_way(self):
        body = "{piece p(a) body 1}[{body(a)}]{end}{piece m(x)}t{use p(x) with z}%s{end}{end}"
        rows = (
            ("{z.no}", {}, "field"), ("{z as word}", "a b", "value"), ("{for a in z}{end}", "v", "list"), ("{if z}{end}", 0, "truth"),
            ("{for a in z}{for b in z}{if b}{end}{end}{end}", [True] * 40, "long"),
        )
        for inside, value, word in rows:
            for way in WAYS:
                self.assertEqual(press(body % inside, {"x": value}, way), ("refused", word, "t["))

    def test_bad_ways(self):
        for way in NO_WAYS:
            self.assertEqual(refusal(press, GOOD, GOOD_VALUES, way), (BadWay, "no at"))

    def test_in_which_order_it_refuses(self):
        bad_values = {"x": None}
        for way in NO_WAYS[:3] + ("no",):
            for text in (BAD_TEXT, BAD_NAME, TOO_MANY, None):
                self.assertEqual(refusal(press, text, bad_values, way), (BadWay, "no at"))
        for way in WAYS:
            for values in (bad_values, None, {}, GOOD_VALUES):
                self.assertEqual(refusal(press, BAD_TEXT, values, way), (BadText, 12))
                self.assertEqual(refusal(press, BAD_NAME + "}", values, way), (BadText, len(BAD_NAME)))
                self.assertEqual(refusal(press, BAD_NAME, values, way), (BadName, (0, 1)))
                self.assertEqual(refusal(press, BAD_NAME_AND_TOO_MANY, values, way), (BadName, (1, 5)))
                self.assertEqual(refusal(press, TOO_MANY, values, way), (TooMany, "no at"))
            for values in (bad_values, None, {}, {"y": 1}, {"x": 1, "y": 2}, [], "x", HUGE, nested([], 59), {"x": nested([], 59)}, {"x": HUGE}):
                self.assertEqual(refusal(press, GOOD, values, way), (BadValues, "no at"))

    def test_texts_of_any_kind(self):
        for way in WAYS:
            for thing in NO_TEXTS + ("\t", GOOD + "\t", " " * 4001):
                self.assertEqual(refusal(press, thing, GOOD_VALUES, way), (BadText, None))

    def test_what_is_handed_in_is_the_same_behind(self):
        for way in WAYS:
            for values in (GOOD_VALUES, {"x": [{"n": 1}]}):
                before = copy.deepcopy(values)
                first = press(GOOD, values, way)
                self.assertEqual(values, before)
                self.assertEqual(press(GOOD, values, way), first)


class CheckedTests(unittest.TestCase):

    def test_book_form_and_what_is_unclear(self):
        for text, at in ((GOOD, None), ("{piece m()}{end}", None), (NOT_CLEAR, (1,)), ("{piece m(x)}t{if x}a{x}b{end}{end}", (1, 0, 1))):
            told = checked(text)
            self.assertIsInstance(told, tuple)
            self.assertEqual(told, (read(text), joined(read(text)), at), text)
            self.assertEqual(checked(text), told)

    def test_books_of_every_sort(self):
        for seed, book, values in good_books(150):
            text = shown(book)
            if len(text) <= 4000:
                self.assertEqual(checked(text), (book, joined(book), unclear(joined(book))), seed)

    def test_in_which_order_it_refuses(self):
        rows = (
            (BAD_TEXT, (BadText, 12)), (BAD_NAME + "}", (BadText, len(BAD_NAME))), (BAD_NAME, (BadName, (0, 1))),
            (BAD_NAME_AND_TOO_MANY, (BadName, (1, 5))), (TOO_MANY, (TooMany, "no at")),
            (BAD_NAME_AND_TOO_MANY[:-5], (BadText, len(BAD_NAME_AND_TOO_MANY) - 5)),
        )
        for text, want in rows:
            self.assertEqual(refusal(checked, text), want)
            self.assertEqual(refusal(pressed_back, text, "x"), want)
            self.assertEqual(refusal(pressed_back, text, None), want)

    def test_texts_of_any_kind(self):
        for thing in NO_TEXTS + ("\t", " " * 4001):
            self.assertEqual(refusal(checked, thing), (BadText, None))
            self.assertEqual(refusal(pressed_back, thing, "x"), (BadText, None))


class PressedBackTests(unittest.TestCase):

    def test_what_was_pressed(self):
        self.assertEqual(pressed_back(GOOD, "1|;2|"), ([[["1"], ["2"]]], {"x": [{"n": "1"}, {"n": "2"}]}))
        self.assertEqual(pressed_back(GOOD, ""), ([[]], {"x": []}))
        self.assertEqual(pressed_back("{piece m()}{end}", ""), ([], {}))
        text = "{piece m(x, y, z)}{if x}[{y as quoted}]{else}{z as number}{end}{end}"
        self.assertEqual(pressed_back(text, '["a"]'), ([(True, ["a"])], {"x": True, "y": "a"}))
        self.assertEqual(pressed_back(text, "-7"), ([(False, [-7])], {"x": False, "z": -7}))
        told = pressed_back(text, "-7")
        self.assertIsInstance(told, tuple)

    def test_what_press_wrote_is_read_back(self):
        done = 0
        for seed, book, values in good_books(500):
            text = shown(book)
            form = joined(book)
            if len(text) <= 4000 and unclear(form) is None:
                outcome = press(text, values)
                if outcome[0] == "written":
                    done += 1
                    fill = filled(form, values)[1]
                    self.assertEqual(pressed_back(text, outcome[1]), (fill, gathered(form, fill)), seed)
        self.assertGreater(done, 50)

    def test_unclear_is_told_ahead_of_the_others(self):
        for output in ("ab", "axb", "", "zzz", None, 7, "\t", []):
            self.assertEqual(refusal(pressed_back, NOT_CLEAR, output), (Unclear, (1,)))
        text = "{piece m(x)}{for y in x}<{y}>{end}{for y in x}<{y}>{end}{end}"
        self.assertEqual(refusal(pressed_back, text, "<a><b>"), (Unclear, (0,)))

    def test_no_fill(self):
        rows = (
            ("1", 1), ("1|2", 2), ("1|;", 3), ("1|;2", 4), ("1|;2|;", 6), ("1|;2||", 5), ("<", 0), ("1<", 1), ("1|;2|\n", 5), ("~|", 0), ("|;~x|", 2),
        )
        for output, at in rows:
            self.assertEqual(refusal(pressed_back, GOOD, output), (NoFill, at), output)
        for thing in NO_TEXTS + ("\t", "1|\t"):
            self.assertEqual(refusal(pressed_back, GOOD, thing), (NoFill, None))

    def test_a_sign_more_fewer_or_another(self):
        text = "{piece m(x)}{for y in x}{y.k as word}={y.v as quoted}{if y.t}!{end}\n{end}{end}"
        values = {"x": [{"k": "a1", "v": 'q"', "t": True}, {"k": "b", "v": "", "t": False}]}
        output = press(text, values)[1]
        self.assertEqual(pressed_back(text, output)[1], values)
        for at in range(len(output) + 1):
            changed = [output[:at] + output[at + 1:]]
            changed += [output[:at] + sign + output[at:] for sign in signs()]
            changed += [output[:at] + sign + output[at + 1:] for sign in signs()]
            for other in changed:
                self.check_other(text, other)

    def check_other(self, text, other):
        told = refusal(pressed_back, text, other)
        if told is None:
            self.assertEqual(press(text, pressed_back(text, other)[1]), ("written", other))
        else:
            self.assertIs(told[0], NoFill)
            self.assertTrue(0 <= told[1] <= len(other))

    def test_clash(self):
        text = "{piece m(x, y)}{x as word}-{x as word}-{for a in y}.{end}-{for a in y}.{end}{end}"
        self.assertEqual(pressed_back(text, "a-a-..-.."), (["a", "a", [[], []], [[], []]], {"x": "a", "y": [None, None]}))
        self.assertEqual(refusal(pressed_back, text, "a-b-..-.."), (Clash, "no at"))
        self.assertEqual(refusal(pressed_back, text, "a-a-..-."), (Clash, "no at"))
        # What can't be read is told ahead of a clash.
        self.assertEqual(refusal(pressed_back, text, "a-b-..-.,"), (NoFill, 8))

    def test_what_was_told_stays(self):
        first = pressed_back(GOOD, "1|;2|")
        kept = copy.deepcopy(first)
        again = pressed_back(GOOD, "1|;2|")
        again[0].clear()
        again[1]["x"][0]["n"] = "changed"
        again[1]["x"].pop()
        self.assertEqual(first, kept)
        self.assertEqual(pressed_back(GOOD, "1|;2|"), kept)


if __name__ == "__main__":
    unittest.main()

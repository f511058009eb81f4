import copy
import unittest

from formsmith.back import read_back
from formsmith.books import read
from formsmith.clear import unclear
from formsmith.errors import NoFill
from formsmith.flats import spelt
from formsmith.signs import signs
from makers import FormMaker


def form_of(text):
    return read("{piece m()}" + text + "{end}")[0][4]


def at_of(form, text):
    """The at with which a text is refused."""
    try:
        read_back(form, text)
    except NoFill as error:
        return error.at
    return "not refused"


LIST = "[{for a in x}{a as number}{between}, {end}]"
ROWS = "{for a in x}{a.n as word}={a.v}\n{end}."

# Forms by their texts, texts, and the fills to which these are read.
GOOD = (
    ("", "", []), ("abc", "abc", []),
    ("{x as word}", "ab", ["ab"]), ("{x as number}", "-12", [-12]), ("{x as quoted}", '"a^q^n^^"', ['a"\n^']),
    ("{x}", "a~l~~", ["a<~"]), ("{x}", "", [""]), ("{x as line}", "a<~n", ["a<\n"]), ("{x as line}", "", [""]),
    ("{x as word} {y as number}|{z}\n{w as line}\n{v as quoted}", 'a 1|b\nc\n"d"', ["a", 1, "b", "c", "d"]),
    ("{x}<{x}>{x}", "<>", ["", "", ""]),
    # loops of none, one and many rounds
    (LIST, "[]", [[]]), (LIST, "[1]", [[[1]]]), (LIST, "[1, -2, 0]", [[[1], [-2], [0]]]),
    (ROWS, ".", [[]]), (ROWS, "a=1\n.", [[["a", "1"]]]), (ROWS, "a=\nb=<\n.".replace("<", "~l"), [[["a", ""], ["b", "<"]]]),
    ("{for a in x}b{end}", "", [[]]), ("{for a in x}b{end}", "bbb", [[[], [], []]]),
    ("{for a in x}b{between},;{end};", "b,;b;", [[[], []]]), ("{for a in x}b{between},;{end};", "b;", [[[]]]),
    ("{for a in x}b{between}b{end}", "bbbbb", [[[], [], []]]), ("{for a in x}b{between}b{end}", "b", [[[]]]),
    ("{for a in x}({for b in a}{b as word}{between},{end}){end}", "()(a,b)(c)", [[[[]], [[["a"], ["b"]]], [[["c"]]]]]),
    ("{for a in x}({for b in a}c{end}{between};{end}!", "(;(cc!", [[[[]], [[[], []]]]]),
    # choices
    ("{if x}a{else}b{end}", "a", [(True, [])]), ("{if x}a{else}b{end}", "b", [(False, [])]),
    ("{if x}a{end}", "a", [(True, [])]), ("{if x}a{end}", "", [(False, [])]), ("{if x}{else}a{end}", "", [(True, [])]),
    ("{if x}{else}a{end}", "a", [(False, [])]), ("{if x}a{end}b", "ab", [(True, [])]), ("{if x}a{end}b", "b", [(False, [])]),
    ("{if x}{y}{else}<{end}", "", [(True, [""])]), ("{if x}{y}{else}<{end}", "q", [(True, ["q"])]),
    ("{if x}{y}{else}<{end}", "<", [(False, [])]), ("{if x}{y}{else}<{end}>", ">", [(True, [""])]),
    ("{if x}b{else}{for y in z}a{end}{end}", "", [(False, [[]])]), ("{if x}b{else}{for y in z}a{end}{end}", "aa", [(False, [[[], []]])]),
    ("{if x}{y as word}{else}-{y as number}{end}.", "-7.", [(False, [7])]),
    ("{for a in x}{if a}({b as word}){else}-{end}{end}", "(q)--(r)", [[[(True, ["q"])], [(False, [])], [(False, [])], [(True, ["r"])]]]),
    ("{if x}a{if y}b{end}{end}", "ab", [(True, [(True, [])])]), ("{if x}a{if y}b{end}{end}", "a", [(True, [(False, [])])]),
    ("{if x}a{if y}b{end}{end}", "", [(False, [])]),
)

# Forms, texts, and the at with which they are refused.
BAD = (
    # a text that stands otherwise, or ends ahead of it
    ("abc", "", 0), ("abc", "a", 1), ("abc", "ab", 2), ("abc", "abd", 2), ("abc", "xbc", 0), ("abc", "ac", 1),
    ("a{x as quoted}bc", 'a""b', 4), ("a{x as quoted}bc", 'a""bx', 4), ("a{x as quoted}bc", 'a""c', 3),
    # the first sign behind all
    ("", "a", 0), ("abc", "abcd", 3), ("abc", "abc\n", 3), ("{x as word}", "ab-c", 2), ("{x}", "a<", 1), ("{x as line}", "a\n", 1),
    ("{x as number}", "12a", 2), ("{for a in x}b{end}", "bbc", 2), ("{if x}a{else}b{end}", "ab", 1),
    # the place where nothing is read
    ("a{x as word}", "a", 1), ("a{x as word}", "a-", 1), ("{x as word}", "x" * 41, 0), ("a{x as number}b", "ab", 1),
    ("a{x as number}b", "a01b", 1), ("a{x as number}b", "a-0b", 1), ("a{x as number}b", "a-b", 1), ("{x as number}", "1" * 31, 0),
    ("a{x as quoted}", 'a"b', 1), ("a{x as quoted}", "ab", 1), ("a{x as quoted}", 'a"^x"', 1), ("a{x}|", "ab~|", 1), ("a{x}|", "a~x|", 1),
    ("{x}|", "x" * 401 + "|", 0), ("a\n{x as line}\n", "a\n~l\n", 2), ("a\n{x as line}\n", "a\nb~\n", 2),
    ("{x as word} {y as word}", "a ", 2), ("{x as word} {y as word}", "a  b", 2),
    # BETWEEN otherwise, and one more round behind it
    (LIST, "[1,2]", 3), (LIST, "[1,", 3), (LIST, "[1, ]", 4), (LIST, "[1, 2, ", 7), (LIST, "[, 1]", 1), (LIST, "[1 2]", 2), (LIST, "[1", 2),
    (LIST, "[1, 2", 5), (LIST, "[1, x]", 4), (LIST, "[01]", 1), (LIST, "[1, -]", 4), (LIST, "1]", 0), (LIST, "[", 1),
    ("{for a in x}b{between}b{end}", "bb", 2), ("{for a in x}b{between};;{end}", "b;", 2), ("{for a in x}b{between};;{end}", "b;b", 2),
    ("{for a in x}b{between};{end}", ";", 0), ("{for a in x}bc{end}d", "bcbd", 3), ("{for a in x}bc{end}d", "bcb", 3),
    # the sign with which no side begins, or the text's end
    ("{if x}a{else}b{end}", "c", 0), ("{if x}a{else}b{end}", "", 0), ("q{if x}a{else}b{end}", "q", 1), ("q{if x}a{else}b{end}c", "qc", 1),
    ("{if x}a{end}b", "c", 0), ("{if x}a{end}b", "", 0), ("{if x}a{end}b", "aa", 1), ("{if x}a{end}", "b", 0), ("{if x}{y}{else}<{end}", ">", 0),
    ("[{for a in x}{if a}b{else}c{end}{between},{end}]", "[b,d]", 3), ("[{for a in x}{if a}b{else}c{end}{between},{end}]", "[b,", 3),
    ("{if x}ab{else}c{end}", "ac", 1), ("{if x}ab{else}c{end}", "a", 1),
)

NO_TEXTS = (None, 0, 10 ** 3999, True, False, [], ["abc"], (), ("abc",), {}, {"a": 1}, 1.5, b"abc", object(), str, "\t", "abc\t", "a\tbc")


class ReadBackTests(unittest.TestCase):

    def test_good_texts(self):
        for text, output, fill in GOOD:
            form = form_of(text)
            self.assertIsNone(unclear(form), text)
            told = read_back(form, output)
            self.assertEqual(repr(told), repr(fill), (text, output))
            self.assertEqual(spelt(form, told), output)

    def test_refused_texts(self):
        for text, output, at in BAD:
            self.assertIsNone(unclear(form_of(text)), text)
            self.assertEqual(at_of(form_of(text), output), at, (text, output))

    def test_what_is_no_text(self):
        for thing in NO_TEXTS:
            for text in ("abc", "", "{x as line}", LIST):
                self.assertIsNone(at_of(form_of(text), thing))

    def test_texts_of_any_length(self):
        form = form_of(LIST)
        for many in (41, 2001, 5000):
            fill = [[[7]] * many]
            self.assertEqual(read_back(form, spelt(form, fill)), fill)
            self.assertEqual(at_of(form, spelt(form, fill) + "!"), 3 * many)
        self.assertEqual(at_of(form_of("a{x as line}"), "a" + "x" * 9000), 1)
        self.assertEqual(read_back(form_of("a" * 3000 + "{x}" + "<" * 900), "a" * 3000 + "q" + "<" * 900), ["q"])

    def test_24_deep(self):
        form = (("text", "z"),)
        fill = []
        for _ in range(23):
            form = (("loop", "v0", ("x",), (("text", "("),) + form + (("text", ")"),), ""),)
            fill = [[fill, fill]] if len(repr(fill)) < 2000 else [[fill]]
        self.assertEqual(read_back(form, spelt(form, fill)), fill)

    def test_fills_of_every_sort(self):
        read_well = 0
        for seed in range(1500):
            maker = FormMaker(seed)
            form = maker.form()
            if unclear(form) is None:
                for _ in range(3):
                    read_well += 1
                    fill = maker.fill(form)
                    told = read_back(form, spelt(form, fill))
                    self.assertEqual(repr(told), repr(fill), seed)
        self.assertGreater(read_well, 600)

    def test_a_sign_more_fewer_or_another(self):
        for seed in range(400):
            maker = FormMaker(seed)
            form = maker.form()
            if unclear(form) is None:
                output = spelt(form, maker.fill(form))[:60]
                for at in range(len(output) + 1):
                    for sign in maker.random.sample(signs(), 3) + ["", "~", "<", "a"]:
                        self.check_changed(form, output[:at] + sign + output[at:])
                        self.check_changed(form, output[:at] + sign + output[at + 1:])

    def check_changed(self, form, text):
        try:
            fill = read_back(form, text)
        except NoFill as error:
            self.assertIs(type(error.at), int)
            self.assertTrue(0 <= error.at <= len(text))
            self.assertEqual(at_of(form, text), error.at)
        else:
            self.assertEqual(spelt(form, fill), text)

    def test_what_was_told_stays(self):
        form = form_of(ROWS)
        told = read_back(form, "a=1\nb=2\n.")
        kept = copy.deepcopy(told)
        again = read_back(form, "a=1\nb=2\n.")
        again[0][0].clear()
        again[0].pop()
        self.assertEqual(told, kept)
        self.assertEqual(read_back(form, "a=1\nb=2\n."), kept)


if __name__ == "__main__":
    unittest.main()

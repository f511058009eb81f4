import unittest

from formsmith.books import read
from formsmith.firsts import begins
from formsmith.signs import signs
from makers import FormMaker

FIGURES = "0123456789"
GREAT = "ABCDEFGHIJKLMNOPQRSTUVWXYZ"
LETTERS = FIGURES + GREAT + GREAT.lower()
NUMBER = "-" + FIGURES
PLAIN = "".join(sign for sign in signs() if sign not in "<>&|\n")
LINE = "".join(sign for sign in signs() if sign != "\n")

# What nodes begin with, by the text of a piece, and whether they may be empty.
ROWS = (
    ("", "", True),
    ("abc", "a", False), ("\n", "\n", False), ("{(}", "{", False), ("~", "~", False),
    ("{x as word}", LETTERS, False), ("{x as number}", NUMBER, False), ("{x as quoted}", '"', False),
    ("{x}", PLAIN, True), ("{x as line}", LINE, True),
    # loops may be empty
    ("{for a in x}{end}", "", True), ("{for a in x}b{end}", "b", True), ("{for a in x}b{between}c{end}", "b", True),
    ("{for a in x}{a as word}{end}", LETTERS, True),
    # a loop whose nodes may be empty begins with what stands between, too
    ("{for a in x}{between}cd{end}", "c", True), ("{for a in x}{if a}z{end}{between}cd{end}", "cz", True),
    ("{for a in x}{if a}z{end}{end}", "z", True), ("{for a in x}{a}{between}<{end}", PLAIN + "<", True),
    ("{for a in x}{for b in a}p{end}{for b in a}o{end}{between}n{end}", "nop", True),
    # choices
    ("{if x}{end}", "", True), ("{if x}b{end}", "b", True), ("{if x}{else}c{end}", "c", True), ("{if x}b{else}a{end}", "ab", False),
    ("{if x}b{else}b{end}", "b", False), ("{if x}b{else}{for y in x}a{end}{end}", "ab", True),
    ("{if x}{if y}c{end}{else}b{end}", "bc", True), ("{if x}{x as quoted}{else}-{end}", '"-', False),
    # one behind the other
    ("bca", "b", False), ("{x as quoted}a", '"', False), ("{if x}b{end}a", "ab", False), ("{if x}b{else}c{end}a", "bc", False),
    ("{for a in x}z{end}{if x}y{end}{if x}x{else}w{end}v", "wxyz", False), ("{for a in x}z{end}{if x}y{end}", "yz", True),
    ("{for a in x}z{end}{x as number}y", NUMBER + "z", False),
    ("{if x}{for a in x}z{end}y{else}b{end}a", "byz", False),
    ("{for a in x}{if a}q{end}r{between}s{end}t", "qrt", False),
)


class BeginsTests(unittest.TestCase):

    def test_rows(self):
        for text, first, is_void in ROWS:
            nodes = read("{piece m()}" + text + "{end}")[0][4]
            want = "".join(sign for sign in signs() if sign in first)
            told = begins(nodes)
            self.assertEqual(told, (want, is_void), text)
            self.assertIsInstance(told, tuple)
            self.assertIs(told[1], is_void, text)

    def test_plain_and_what_stands_behind_it(self):
        nodes = (("place", ("x",), "plain"), ("text", "<a"))
        self.assertEqual(begins(nodes), ("".join(sign for sign in signs() if sign not in ">&|\n"), False))
        nodes = (("place", ("x",), "line"), ("text", "\n"))
        self.assertEqual(begins(nodes), (signs(), False))

    def test_every_sign_may_be_a_texts_first(self):
        for sign in signs():
            self.assertEqual(begins((("text", sign + "x"),)), (sign, False))

    def test_24_deep(self):
        nodes = (("text", "z"),)
        for _ in range(11):
            nodes = (("loop", "v0", ("x",), (("choice", ("x",), nodes, ()),), ""),)
        self.assertEqual(begins(nodes), ("z", True))

    def test_each_sign_once_and_in_order_and_the_same_again(self):
        for seed in range(200):
            form = FormMaker(seed).form()
            told = begins(form)
            self.assertEqual(told[0], "".join(sign for sign in signs() if sign in told[0]))
            self.assertEqual(begins(form), told)


if __name__ == "__main__":
    unittest.main()

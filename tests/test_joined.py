import copy
import unittest

from formsmith.books import read
from formsmith.flats import filled, flat_written
from formsmith.joined import joined
from formsmith.scopes import need_book, sized
from formsmith.writing import written
from makers import good_books, renamed


def place(*path):
    return ("place", path, "plain")


def text(words):
    return ("text", words)


ROWS = (
    ("{piece m()}{end}", ()),
    ("{piece m(x)}a{x.f as word}{end}", (text("a"), ("place", ("x", "f"), "word"))),
    # uses, and paths with fields handed in and led on
    ("{piece p(a, b)}{a}{b.g}{end}{piece m(x)}{use p(x.f, x)}{end}", (place("x", "f"), place("x", "g"))),
    ("{piece p(a)}{a.b.c.d}{end}{piece q(a)}{use p(a.e.f.g)}{end}{piece m(a)}{use q(a.h.i.j)}{end}",
     (place("a", "h", "i", "j", "e", "f", "g", "b", "c", "d"),)),
    ("{piece p(y, x)}{x}{y}{end}{piece m(x, y)}{use p(x, y)}{use p(y, x)}{end}", (place("y"), place("x"), place("x"), place("y"))),
    ("{piece p(a)}{if a.t}{a}{else}{a.n}{end}{end}{piece m(x)}{use p(x.r)}{end}",
     (("choice", ("x", "r", "t"), (place("x", "r"),), (place("x", "r", "n"),)),)),
    # loops are numbered as they stand, each ahead of those within it
    ("{piece m(x)}{for a in x}{for b in a}{b}{a}{end}{end}{for a in x}{a.f}{between}, {end}{end}",
     (("loop", "v0", ("x",), (("loop", "v1", ("v0",), (place("v1"), place("v0")), ""),), ""),
      ("loop", "v2", ("x",), (place("v2", "f"),), ", "))),
    ("{piece m(x)}{for x in x}{for x in x.f}{x}{end}{x}{end}{x}{end}",
     (("loop", "v0", ("x",), (("loop", "v1", ("v0", "f"), (place("v1"),), ""), place("v0")), ""), place("x"))),
    ("{piece p(a)}{for b in a}{b}{end}{end}{piece m(x)}{use p(x)}{for c in x}{use p(c.f)}{end}{use p(x)}{end}",
     (("loop", "v0", ("x",), (place("v0"),), ""),
      ("loop", "v1", ("x",), (("loop", "v2", ("v1", "f"), (place("v2"),), ""),), ""),
      ("loop", "v3", ("x",), (place("v3"),), ""))),
    ("{piece m(x)}{if x}{for a in x}{end}{else}{for a in x}{end}{end}{for a in x}{end}{end}",
     (("choice", ("x",), (("loop", "v0", ("x",), (), ""),), (("loop", "v1", ("x",), (), ""),)), ("loop", "v2", ("x",), (), ""))),
    # bodies
    ("{piece p(a) body 1}<{body(a.f)}>{end}{piece m(x)}{use p(x.g) with b}{b.h}{x}{end}{end}",
     (text("<"), place("x", "g", "f", "h"), place("x"), text(">"))),
    ("{piece p(l) body 1}{for e in l}{body(e.k)}{between};{end}{end}{piece m(x, e)}{use p(x) with k}{k}{e}{end}{end}",
     (("loop", "v0", ("x",), (place("v0", "k"), place("e")), ";"),)),
    ("{piece p() body 0}{body()}{body()}{end}{piece m(x)}{use p() with }{for a in x}{a}{end}{end}{end}",
     (("loop", "v0", ("x",), (place("v0"),), ""), ("loop", "v1", ("x",), (place("v1"),), ""))),
    ("{piece p(a) body 1}{body(a)}{end}{piece m(x)}{use p(x.f) with x}{x}{end}{x}{end}", (place("x", "f"), place("x"))),
    # bodies handed on
    ("{piece p(a) body 1}({body(a.i)}){end}{piece q(b) body 1}{use p(b.j) with c}[{body(c.k)}]{end}{end}"
     "{piece m(x)}{use q(x.l) with d}{d.n}{end}{end}",
     (text("(["), place("x", "l", "j", "i", "k", "n"), text("])"))),
    ("{piece p() body 0}({body()}){end}{piece q() body 0}{use p() with }{use p() with }{body()}{end}{end}{end}"
     "{piece m(x)}{use q() with }{x}{end}{end}", (text("(("), place("x"), text("))"))),
    # a body's user's names stand for what they stood for at the use
    ("{piece p(l) body 0}{for x in l}{body()}{end}{end}{piece m(x)}{use p(x.l) with }{x}{end}{end}",
     (("loop", "v0", ("x", "l"), (place("x"),), ""),)),
    # neighbouring texts are one
    ("{piece p()}b{end}{piece m()}a{use p()}c{end}", (text("abc"),)),
    ("{piece p()}{end}{piece m(x)}a{use p()}c{x}{use p()}d{end}", (text("ac"), place("x"), text("d"))),
    ("{piece p()}{end}{piece q()}{use p()}{end}{piece m(x)}{use q()}{if x}{use q()}a{use q()}b{else}{use q()}{end}{end}",
     (("choice", ("x",), (text("ab"),), ()),)),
    ("{piece p(a)}b{a}c{end}{piece m(x)}a{use p(x)}d{use p(x)}{use p(x)}e{end}",
     (text("ab"), place("x"), text("cdb"), place("x"), text("cb"), place("x"), text("ce"))),
    ("{piece p() body 0}[{body()}]{end}{piece m()}a{use p() with }b{end}c{use p() with }{end}{end}", (text("a[b]c[]"),)),
    ("{piece p()}b{end}{piece m(x)}{for a in x}a{use p()}{between}{(}{end}{use p()}{end}",
     (("loop", "v0", ("x",), (text("ab"),), "{"), text("b"))),
    # a use that comes to nothing, and a body that is never written
    ("{piece p() body 0}{end}{piece m(x)}{use p() with }{x}{end}{end}", ()),
    # pieces that are not used
    ("{piece p(a)}{for b in a}{b}{end}{end}{piece m(x)}{for c in x}{end}{end}", (("loop", "v0", ("x",), (), ""),)),
)


class JoinedTests(unittest.TestCase):

    def test_rows(self):
        for words, form in ROWS:
            book = read(words)
            need_book(book)
            self.assertEqual(repr(joined(book)), repr(form), words)

    def test_it_writes_what_the_book_writes(self):
        refused = 0
        for seed, book, values in good_books(500, 0.04):
            outcome = written(book, values)
            refused += outcome[0] == "refused"
            form = joined(book)
            self.assertEqual(flat_written(form, values), outcome, seed)
            self.assertEqual(filled(form, values)[0] == "filled", outcome[0] == "written", seed)
        self.assertGreater(refused, 50)

    def test_it_hangs_on_no_other_names(self):
        for seed, book, values in good_books(300):
            other = renamed(book)
            need_book(other)
            self.assertEqual(joined(other), joined(book), seed)
            self.assertEqual(written(other, values), written(book, values), seed)
            self.assertEqual(sized(other), sized(book), seed)

    def test_no_two_texts_are_neighbours(self):
        for seed, book, values in good_books(300):
            self.check_nodes(joined(book), [])

    def check_nodes(self, nodes, names):
        self.assertIsInstance(nodes, tuple)
        for one, other in zip(nodes, nodes[1:]):
            self.assertFalse(one[0] == other[0] == "text")
        for node in nodes:
            self.assertIn(node[0], ("text", "place", "loop", "choice"))
            if node[0] == "loop":
                self.assertEqual(node[1], f"v{len(names)}")
                names.append(node[1])
                self.check_nodes(node[3], names)
            elif node[0] == "choice":
                self.check_nodes(node[2], names)
                self.check_nodes(node[3], names)

    def test_what_counts_is_counted_in_the_joined_form_too(self):
        book = read("{piece p(a, b)}{for c in a}{for d in a}{if b}.{end}{end}{end}{end}{piece m(x, t)}{use p(x, t)}{use p(x, t)}{end}")
        for many in (20, 21, 22, 23, 31, 32, 40):
            values = {"x": [0] * many, "t": True}
            outcome = written(book, values)
            self.assertEqual(flat_written(joined(book), values), outcome)
            self.assertEqual(outcome[0], "written" if 2 * (1 + 2 * many + 2 * many * many) <= 2000 else "refused")

    def test_asked_again_the_same_is_told(self):
        for words, form in ROWS:
            book = read(words)
            kept = copy.deepcopy(book)
            self.assertEqual(joined(book), joined(book))
            self.assertEqual(book, kept)


if __name__ == "__main__":
    unittest.main()

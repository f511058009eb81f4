import unittest

from formsmith.books import read
from formsmith.showing import shown
from makers import LooseMaker


def book(*nodes):
    return (("piece", "a", (), None, nodes),)


PLACE = ("place", ("x",), "plain")

# How nodes are shown.
SHOWN = (
    (("text", "a b\nc"), "a b\nc"),
    (("text", "{"), "{(}"),
    (("text", "}"), "{)}"),
    (("text", "a{b}c"), "a{(}b{)}c"),
    (("text", "{}{(}{)}"), "{(}{)}{(}({)}{(}){)}"),
    (PLACE, "{x}"),
    (("place", ("x", "y", "z", "w"), "plain"), "{x.y.z.w}"),
    (("place", ("x",), "word"), "{x as word}"),
    (("place", ("x",), "number"), "{x as number}"),
    (("place", ("x", "y"), "quoted"), "{x.y as quoted}"),
    (("place", ("x",), "line"), "{x as line}"),
    (("loop", "x", ("y",), (), ""), "{for x in y}{end}"),
    (("loop", "x", ("y", "z"), (PLACE, ("text", "t")), ""), "{for x in y.z}{x}t{end}"),
    (("loop", "x", ("y",), (PLACE,), ", "), "{for x in y}{x}{between}, {end}"),
    (("loop", "x", ("y",), (), "{,}"), "{for x in y}{between}{(},{)}{end}"),
    (("choice", ("x",), (), ()), "{if x}{end}"),
    (("choice", ("x", "y"), (PLACE,), ()), "{if x.y}{x}{end}"),
    (("choice", ("x",), (), (PLACE,)), "{if x}{else}{x}{end}"),
    (("choice", ("x",), (("text", "a"),), (("text", "b"),)), "{if x}a{else}b{end}"),
    (("use", "b", (), None, None), "{use b()}"),
    (("use", "b", (("x",), ("y", "z")), None, None), "{use b(x, y.z)}"),
    (("use", "b", (), (), ()), "{use b() with }{end}"),
    (("use", "b", (("x",),), ("p",), (PLACE,)), "{use b(x) with p}{x}{end}"),
    (("use", "b", (), ("p", "q", "r"), ()), "{use b() with p, q, r}{end}"),
    (("body", ()), "{body()}"),
    (("body", (("x",), ("y", "z"))), "{body(x, y.z)}"),
)


class ShownTests(unittest.TestCase):

    def test_nodes(self):
        for node, text in SHOWN:
            self.assertEqual(shown(book(node)), "{piece a()}" + text + "{end}")

    def test_nodes_within_one_another(self):
        for node, text in SHOWN:
            loop = ("loop", "v", ("w",), (PLACE, node), "")
            self.assertEqual(shown(book(loop)), "{piece a()}{for v in w}{x}" + text + "{end}{end}")
            choice = ("choice", ("v",), (node, PLACE), (PLACE, node))
            self.assertEqual(shown(book(choice)), "{piece a()}{if v}" + text + "{x}{else}{x}" + text + "{end}{end}")
            use = ("use", "b", (), (), (PLACE, node))
            self.assertEqual(shown(book(use)), "{piece a()}{use b() with }{x}" + text + "{end}{end}")

    def test_pieces(self):
        rows = (
            ((("piece", "a", (), None, ()),), "{piece a()}{end}"),
            ((("piece", "a", ("b",), None, ()),), "{piece a(b)}{end}"),
            ((("piece", "a", ("b", "c", "d", "e"), 3, (PLACE,)),), "{piece a(b, c, d, e) body 3}{x}{end}"),
            ((("piece", "a", (), 0, ()),), "{piece a() body 0}{end}"),
            ((("piece", "a", (), None, ()), ("piece", "b", (), 1, (("text", " "),)), ("piece", "c", (), None, ())),
             "{piece a()}{end}{piece b() body 1} {end}{piece c()}{end}"),
        )
        for told, text in rows:
            self.assertEqual(shown(told), text)

    def test_what_is_shown_is_read_as_this_book(self):
        for node, text in SHOWN:
            self.assertEqual(read(shown(book(node))), book(node))
            self.assertEqual(read(shown(book(PLACE, node, PLACE))), book(PLACE, node, PLACE))

    def test_books_of_every_sort_are_read_again(self):
        done = 0
        for seed in range(400):
            told = LooseMaker(seed).book()
            text = shown(told)
            self.assertEqual(shown(told), text)
            if len(text) <= 4000:
                done += 1
                self.assertEqual(read(text), told, seed)
                self.assertEqual(repr(read(text)), repr(told), seed)
        self.assertGreater(done, 200)

    def test_books_of_more_than_200_nodes(self):
        nodes = (PLACE, ("text", "{t}")) * 300
        text = "{piece a()}" + "{x}{(}t{)}" * 300 + "{end}"
        self.assertEqual(shown(book(*nodes)), text)
        self.assertEqual(shown(book(*nodes[:100]) * 6), ("{piece a()}" + "{x}{(}t{)}" * 50 + "{end}") * 6)

    def test_six_names_and_paths(self):
        names = ("a", "b", "c", "d", "e", "f")
        paths = tuple((name,) for name in names)
        inside = "a, b, c, d, e, f"
        self.assertEqual(shown((("piece", "a", names, 2, ()),)), "{piece a(" + inside + ") body 2}{end}")
        self.assertEqual(shown(book(("body", paths))), "{piece a()}{body(" + inside + ")}{end}")
        told = shown(book(("use", "b", paths, names, ())))
        self.assertEqual(told, "{piece a()}{use b(" + inside + ") with " + inside + "}{end}{end}")


if __name__ == "__main__":
    unittest.main()

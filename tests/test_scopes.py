import unittest

from formsmith.books import read
from formsmith.errors import BadName, TooMany
from formsmith.scopes import bound, need_book, sized
from makers import good_books


def at_of(text):
    """The at with which the book of a text is refused."""
    try:
        need_book(read(text) if isinstance(text, str) else text)
    except BadName as error:
        return error.at
    return "not refused"


def walked_size(book):
    """The size of main with all put in, by walking through all of it."""
    pieces = {piece[1]: piece for piece in book}
    found = []

    def walk(nodes, depth, body):
        for node in nodes:
            found.append(depth)
            if node[0] == "loop":
                walk(node[3], depth + 1, body)
            elif node[0] == "choice":
                walk(node[2] + node[3], depth + 1, body)
            elif node[0] == "use":
                walk(pieces[node[1]][4], depth + 1, (node[4], body))
            elif node[0] == "body":
                walk(body[0], depth + 1, body[1])

    walk(book[-1][4], 1, None)
    return (len(found), max(found, default=0))


def need_book_or_too_many(book):
    try:
        need_book(book)
    except TooMany:
        pass


# A piece without names or body, one with two names, and one with a body of two names.
ELDERS = "{piece p()}p{end}{piece q(a, b)}{a}{b}{end}{piece r(a) body 2}{body(a, a)}{end}{piece s() body 0}{body()}{end}"

# Nodes of a main(x, y) behind these elders that are good.
GOOD = (
    "", "t", "{x}", "{y.f.g.h as word}", "{for z in x}{z}{end}", "{for z in x.f}{z}{x}{y}{end}", "{for x in x}{x}{end}",
    "{for y in x}{for y in y}{y}{end}{y}{end}{y}", "{if x}{y}{else}{x}{end}", "{use p()}", "{use q(x, y)}", "{use q(x, x.f)}",
    "{use r(x) with z, w}{z}{w}{x}{y}{end}", "{use r(x) with x, y}{x}{y}{end}", "{use r(y) with z, w}{end}",
    "{use s() with }{x}{end}", "{for z in x}{use r(z) with z, w}{z}{x}{w}{end}{end}",
    "{use r(x) with z, w}{use r(z) with z, v}{z}{w}{v}{x}{end}{z}{end}",
    "{use s() with }{use s() with }{use p()}{end}{end}",
)

# Nodes of such a main that are wrong, and the way to the wrong one.
WRONG = {
    # a path's first name that is not bound
    "{z}": (0,), "t{z.x}": (1,), "{x}{y}{z as line}": (2,), "{for z in z}{z}{end}": (0,), "{for z in w}{end}": (0,),
    "{if z}{end}": (0,), "{if z.f}{x}{else}{y}{end}": (0,), "{use q(x, z)}": (0,), "{use q(z, x)}": (0,), "{p}": (0,),
    "{use r(z) with z, w}{end}": (0,), "{a}": (0,), "{main}": (0,),
    "{for z in x}{end}{z}": (1,), "{for z in x}{for w in z}{end}{w}{end}": (0, 1),
    "{use r(x) with z, w}{end}{z}": (1,), "{use r(x) with z, w}{a}{end}": (0, 0),
    "{for z in x}{w}{end}": (0, 0), "{for z in x}t{z}{w}{end}": (0, 2), "{if x}{z}{end}": (0, 0, 0),
    "{if x}{x}{z}{else}{z}{end}": (0, 0, 1), "{if x}{else}{z}{end}": (0, 1, 0), "{if x}{x}{else}t{y}{z}{end}": (0, 1, 2),
    "{use s() with }t{z}{end}": (0, 1), "t{use s() with }{if x}{for w in y}{w}{z}{end}{else}{end}{end}": (1, 0, 0, 0, 1),
    "{if x}{else}{use r(x) with v, w}{v}{if w}{else}{for z in v}t{z}{zz}{end}{end}{end}{end}": (0, 1, 0, 1, 1, 0, 2),
    # a use of no elder piece
    "{use z()}": (0,), "{use main(x, y)}": (0,), "{use x()}": (0,), "{for z in x}{use w()}{end}": (0, 0),
    # as many paths as names
    "{use p(x)}": (0,), "{use q()}": (0,), "{use q(x)}": (0,), "{use q(x, y, x)}": (0,), "{use r() with z, w}{end}": (0,),
    "{use r(x, y) with z, w}{end}": (0,), "{use s(x) with }{end}": (0,),
    # a body just where there is a MANY, with as many names
    "{use p() with }{end}": (0,), "{use q(x, y) with z}{end}": (0,), "{use r(x)}": (0,), "{use s()}": (0,),
    "{use r(x) with }{end}": (0,), "{use r(x) with z}{end}": (0,), "{use r(x) with z, w, v}{end}": (0,),
    "{use s() with z}{end}": (0,),
    # two names of a body being one
    "{use r(x) with z, z}{z}{end}": (0,), "t{use r(x) with x, x}{end}": (1,),
    # a body in a piece without MANY
    "{body()}": (0,), "t{for z in x}{body(x)}{end}": (1, 0), "{use s() with }{body()}{end}": (0, 0),
    "{use r(x) with z, w}{z}{body(z, w)}{end}": (0, 1),
}


class NeedBookTests(unittest.TestCase):

    def test_mains_names_are_told(self):
        self.assertEqual(need_book(read("{piece a()}{end}")), ())
        self.assertEqual(need_book(read("{piece a(b, c)}{end}{piece d(e, b)}{end}")), ("e", "b"))
        self.assertEqual(need_book(read("{piece a(d, c, b, a)}{end}")), ("d", "c", "b", "a"))
        names = ("a", "b", "c", "d", "e", "f")
        self.assertEqual(need_book((("piece", "a", names, None, ()),)), names)

    def test_good_books(self):
        for inside in GOOD:
            self.assertEqual(need_book(read(ELDERS + "{piece main(x, y)}" + inside + "{end}")), ("x", "y"), inside)

    def test_wrong_nodes_in_main(self):
        for inside, way in WRONG.items():
            self.assertEqual(at_of(ELDERS + "{piece main(x, y)}" + inside + "{end}"), (4,) + way, inside)

    def test_wrong_nodes_in_an_elder_piece(self):
        for inside, way in WRONG.items():
            text = ELDERS + "{piece main(x, y)}" + inside + "{end}{piece last()}{nowhere}{end}"
            self.assertEqual(at_of(text), (4,) + way, inside)

    def test_wrong_nodes_within_others(self):
        wraps = (
            ("t{for v in x}", "{end}", (1, 0)), ("{if x}", "{else}{nowhere}{end}", (0, 0, 0)),
            ("{if x}{x}{y}{else}", "{end}", (0, 1, 0)), ("{x}{y}{use s() with }", "{end}", (2, 0)),
            ("{use r(x) with j, k}", "{end}", (0, 0)),
        )
        for head, tail, ahead in wraps:
            for inside, way in WRONG.items():
                text = ELDERS + "{piece main(x, y)}" + head + inside + tail + "{end}"
                self.assertEqual(at_of(text), (4,) + ahead[:-1] + way, inside)

    def test_body_in_a_piece_with_a_many(self):
        main = "{piece main()}{end}"
        for many in range(4):
            for paths in range(4):
                text = f"{{piece a(x) body {many}}}{{body({', '.join(['x'] * paths)})}}{{end}}" + main
                self.assertEqual(at_of(text), "not refused" if many == paths else (0, 0), text)
        self.assertEqual(at_of("{piece a(x) body 1}{body(y)}{end}" + main), (0, 0))
        self.assertEqual(at_of("{piece a(x) body 1}{for y in x}{body(y)}{end}{body(y)}{end}" + main), (0, 1))

    def test_a_body_within_a_uses_body_is_the_users(self):
        one = "{piece one(a) body 1}{body(a)}{end}"
        main = "{piece main()}{end}"
        two = "{piece two(b) body 2}{use one(b) with c}{body(b, c)}{end}{end}"
        self.assertEqual(at_of(one + two + main), "not refused")
        wrong = "{piece two(b) body 2}{use one(b) with c}{body(c)}{end}{end}"
        self.assertEqual(at_of(one + wrong + main), (1, 0, 0))
        without = "{piece two(b)}{use one(b) with c}{c}{body(c)}{end}{end}"
        self.assertEqual(at_of(one + without + main), (1, 0, 1))
        deep = "{piece two(b) body 0}{use one(b) with c}{use one(c) with d}{body()}{body(d)}{end}{end}{end}"
        self.assertEqual(at_of(one + deep + main), (1, 0, 0, 1))

    def test_a_piece_wrong_by_itself(self):
        self.assertEqual(at_of("{piece a()}{end}{piece a()}{end}"), (1,))
        self.assertEqual(at_of("{piece a()}{end}{piece b()}{end}{piece a()}{end}{piece a()}{end}"), (2,))
        self.assertEqual(at_of("{piece a(x, x)}{end}"), (0,))
        self.assertEqual(at_of("{piece a(x, y, z, x)}{end}{piece b()}{end}"), (0,))
        self.assertEqual(at_of("{piece a()}{end}{piece b(x, y, y)}{end}{piece c()}{end}"), (1,))
        for many in range(4):
            self.assertEqual(at_of(f"{{piece a() body {many}}}{{end}}"), (0,))
            self.assertEqual(at_of(f"{{piece b()}}{{end}}{{piece a() body {many}}}{{end}}"), (1,))
            self.assertEqual(at_of(f"{{piece a() body {many}}}{{end}}{{piece b()}}{{end}}"), "not refused")

    def test_a_piece_may_be_called_like_a_name(self):
        self.assertEqual(at_of("{piece x(x)}{x}{end}{piece y(x)}{for y in x}{use x(y)}{end}{end}"), "not refused")

    def test_a_use_of_a_later_piece_or_of_its_own(self):
        self.assertEqual(at_of("{piece a()}{use b()}{end}{piece b()}{end}"), (0, 0))
        self.assertEqual(at_of("{piece a()}t{use a()}{end}{piece b()}{end}"), (0, 1))
        self.assertEqual(at_of("{piece a()}{end}{piece b()}{use a()}{end}"), "not refused")

    def test_the_first_wrong_one_is_told(self):
        rows = (
            ("{piece a(x, x)}{y}{end}{piece a()}{end}", (0,)),
            ("{piece a()}{y}{end}{piece a()}{end}", (0, 0)),
            ("{piece a()}{end}{piece a()}{y}{end}", (1,)),
            ("{piece a() body 0}{y}{end}", (0,)),
            ("{piece a(x)}{for y in z}{w}{end}{end}", (0, 0)),
            ("{piece a(x)}{for y in x}{w}{end}{w}{end}", (0, 0, 0)),
            ("{piece a(x)}{if x}{x}{else}{w}{end}{w}{end}", (0, 0, 1, 0)),
            ("{piece a(x)}{if x}{w}{else}{w}{end}{end}", (0, 0, 0, 0)),
            ("{piece a(x)}{use n() with b, b}{w}{end}{end}", (0, 0)),
            ("{piece a(x)}{x}{w}{use n()}{end}", (0, 1)),
            ("{piece a(x)}{x}{use n()}{w}{end}", (0, 1)),
            ("{piece a()}{use b()}{end}{piece b()}{w}{end}{piece c() body 1}{end}", (0, 0)),
        )
        for text, at in rows:
            self.assertEqual(at_of(text), at, text)

    def test_six_names_and_paths(self):
        names = ("a", "b", "c", "d", "e", "f")
        paths = tuple((name,) for name in names)
        elder = ("piece", "p", names, 6, (("body", paths),))
        good = ("piece", "m", names, None, (("use", "p", paths, names, ()),))
        self.assertEqual(need_book((elder, good)), names)
        fewer = ("piece", "m", names, None, (("use", "p", paths[:5], names, ()),))
        self.assertEqual(at_of((elder, fewer)), (1, 0))

    def test_asked_again_the_same_is_told(self):
        for inside, way in WRONG.items():
            book = read(ELDERS + "{piece main(x, y)}" + inside + "{end}")
            before = repr(book)
            self.assertEqual((at_of(book), at_of(book)), ((4,) + way,) * 2)
            self.assertEqual(repr(book), before)


class SizeTests(unittest.TestCase):

    def check(self, text, want):
        book = read(text) if isinstance(text, str) else text
        self.assertEqual(sized(book), want, text)
        self.assertEqual(walked_size(book), want, text)

    def test_nodes_in_main(self):
        self.check("{piece a()}{end}", (0, 0))
        self.check("{piece a(x)}t{end}", (1, 1))
        self.check("{piece a(x)}t{x}t{end}", (3, 1))
        self.check("{piece a(x)}{for y in x}{end}{end}", (1, 1))
        self.check("{piece a(x)}{for y in x}t{if y}u{else}v{x}{end}{end}{end}", (6, 3))
        self.check("{piece a(x)}{if x}{else}t{end}{if x}{if x}{end}{end}{end}", (4, 2))

    def test_uses(self):
        self.check("{piece a()}{end}{piece b()}{use a()}{end}", (1, 1))
        self.check("{piece a()}t{end}{piece b()}{use a()}{end}", (2, 2))
        self.check("{piece a(x)}t{x}t{end}{piece b(x)}{use a(x)}{use a(x)}u{end}", (9, 2))
        self.check("{piece a(x)}t{x}t{end}{piece b(x)}{use a(x)}{end}{piece c(x)}{if x}{use b(x)}{end}u{end}", (7, 4))
        self.check("{piece a()}ttt{end}{piece b()}u{end}", (1, 1))

    def test_bodies(self):
        one = "{piece a() body 0}{body()}{end}"
        self.check(one + "{piece b()}{use a() with }{end}{end}", (2, 2))
        self.check(one + "{piece b()}{use a() with }t{end}{end}", (3, 3))
        self.check(one + "{piece b(x)}{use a() with }t{x}t{end}{end}", (5, 3))
        self.check(one + "{piece b(x)}{use a() with }{use a() with }{x}{end}{end}{end}", (5, 5))
        never = "{piece a() body 0}t{end}"
        self.check(never + "{piece b(x)}{use a() with }t{x}{if x}{x}{end}{end}{end}", (2, 2))
        self.check("{piece a() body 0}{end}{piece b(x)}{use a() with }t{x}{end}{end}", (1, 1))
        twice = "{piece a(x) body 1}{body(x)}{for y in x}{body(y)}{end}{end}"
        self.check(twice + "{piece b(x)}{use a(x) with z}{z}{x}{end}{end}", (8, 4))

    def test_bodies_handed_on(self):
        text = (
            "{piece a(x) body 1}{body(x)}{body(x)}{end}"
            "{piece b(x) body 0}{use a(x) with y}{y}{body()}{end}{end}"
            "{piece c(x)}{use b(x) with }t{end}{end}"
        )
        # The use of b, that of a, two bodies, and in each a place and a body with one text.
        self.check(text, (1 + 1 + 2 * (1 + 1 + 1 + 1), 5))

    def test_bodies_handed_on_several_times(self):
        one = "{piece a(x) body 1}{if x}{body(x)}{end}{body(x)}t{end}"
        two = "{piece b(x) body 0}{use a(x) with y}{body()}{for z in y}{if z}{body()}{end}{end}{y}{body()}{end}{end}"
        three = "{piece c(x) body 2}{use b(x) with }{body(x, x)}{use a(x) with y}{if y}{body(y, x)}{end}{end}{end}{end}"
        main = "{piece m(x)}{use c(x) with y, z}{y}{for w in z}{w}{end}{end}{end}"
        for text in (one + main.replace("c(x) with y, z", "a(x) with z").replace("{y}", ""), one + two + three + main):
            book = read(text)
            need_book_or_too_many(book)
            self.assertEqual(sized(book), walked_size(book))
        twice = "{piece a() body 0}{body()}{end}{piece b(x) body 0}{use a() with }{if x}{if x}{body()}{end}{end}{body()}{body()}{end}{end}"
        self.check(twice + "{piece m(x)}{use b(x) with }{x}{if x}t{end}{end}{end}", (1 + 1 + 1 + 2 + 3 * (1 + 3), 8))

    def test_books_of_every_sort(self):
        for seed, book, values in good_books(300):
            self.assertEqual(sized(book), walked_size(book), seed)

    def test_very_large_books_are_reckoned(self):
        pieces = ["{piece a()}t{end}"]
        for one, other in zip("abcdef", "bcdefg"):
            pieces.append("{piece " + other + "()}" + ("{use " + one + "()}") * 30 + "{end}")
        size = 1
        for _ in range(6):
            size = 30 * (1 + size)
        self.assertEqual(sized(read("".join(pieces))), (size, 7))

    def test_400_and_401_nodes(self):
        elder = "{piece a(x)}" + "{x}" * 99 + "{end}"
        for rest, size in (("", 400), ("{x}", 401), ("t", 401)):
            book = read(elder + "{piece b(x)}" + "{use a(x)}" * 4 + rest + "{end}")
            self.assertEqual(sized(book), (size, 2))
            self.check_too_many(book, size > 400)

    def test_24_and_25_deep(self):
        # Eight deep in each piece, and a use on the eighth.
        elder = "{piece a(x)}" + "{if x}" * 7 + "t" + "{end}" * 8
        middle = "{piece b(x)}" + "{if x}" * 7 + "{use a(x)}" + "{end}" * 8
        for many, depth in ((7, 24), (6, 23)):
            text = elder + middle + "{piece c(x)}" + "{if x}" * many + "{use b(x)}" + "{end}" * many + "{end}"
            self.check(text, (7 + 1 + 7 + 1 + many + 1, depth))
            self.check_too_many(read(text), False)
        last = "{piece c(x)}{use b(x)}{end}{piece d(x)}" + "{if x}" * 7 + "{use c(x)}" + "{end}" * 8
        self.check(elder + middle + last, (7 + 1 + 7 + 1 + 1 + 8, 25))
        self.check_too_many(read(elder + middle + last), True)

    def test_main_alone_may_be_too_large(self):
        place = ("place", ("x",), "plain")
        self.check_too_many((("piece", "a", ("x",), None, (place,) * 400),), False)
        self.check_too_many((("piece", "a", ("x",), None, (place,) * 401),), True)
        unused = ("piece", "a", ("x",), None, (place,) * 401)
        self.check_too_many((unused, ("piece", "b", ("x",), None, (place,))), False)

    def test_bad_name_is_told_ahead_of_too_many(self):
        place = ("place", ("x",), "plain")
        wrong = ("place", ("y",), "plain")
        self.assertEqual(at_of((("piece", "a", ("x",), None, (place,) * 450 + (wrong,)),)), (0, 450))

    def check_too_many(self, book, want):
        if want:
            with self.assertRaises(TooMany):
                need_book(book)
        else:
            self.assertEqual(need_book(book), ("x",))


class BoundTests(unittest.TestCase):

    TEXT = (
        "{piece p(a) body 2}{body(a, a)}{end}"
        "{piece q(x, y) body 0}"
        "{x}{for z in y}{z}{for x in z}{x}{end}{y}{end}"
        "{if x}{for y in y}{y}{end}{else}t{for w in y}{w}{end}{end}"
        "{use p(x) with y, v}{y}{use p(y) with y, x}{x}{body()}{end}{for v in x}{v}{end}{end}{x}{end}"
        "{piece main()}{end}"
    )
    ROWS = (
        ((0, 0), ("a",)),
        ((1, 0), ("x", "y")),
        ((1, 1), ("x", "y")),
        ((1, 1, 0), ("x", "y", "z")),
        ((1, 1, 1), ("x", "y", "z")),
        ((1, 1, 1, 0), ("x", "y", "z", "x")),
        ((1, 1, 2), ("x", "y", "z")),
        ((1, 2), ("x", "y")),
        ((1, 2, 0, 0), ("x", "y")),
        ((1, 2, 0, 0, 0), ("x", "y", "y")),
        ((1, 2, 1, 0), ("x", "y")),
        ((1, 2, 1, 1), ("x", "y")),
        ((1, 2, 1, 1, 0), ("x", "y", "w")),
        ((1, 3), ("x", "y")),
        ((1, 3, 0), ("x", "y", "y", "v")),
        ((1, 3, 1), ("x", "y", "y", "v")),
        ((1, 3, 1, 0), ("x", "y", "y", "v", "y", "x")),
        ((1, 3, 1, 1), ("x", "y", "y", "v", "y", "x")),
        ((1, 3, 2), ("x", "y", "y", "v")),
        ((1, 3, 2, 0), ("x", "y", "y", "v", "v")),
        ((1, 4), ("x", "y")),
    )

    def test_names_from_without_inwards(self):
        book = read(self.TEXT)
        self.assertEqual(need_book(book), ())
        for at, names in self.ROWS:
            self.assertEqual(bound(book, at), names, at)
            self.assertIsInstance(bound(book, at), tuple)

    def test_choices_bind_nothing(self):
        book = read("{piece a(x)}{if x}{if x}{x}{else}t{end}{else}{for y in x}{if y}{y}{end}{end}{end}{end}")
        for at in ((0, 0), (0, 0, 0, 0), (0, 0, 0, 0, 0, 0), (0, 0, 0, 0, 1, 0), (0, 0, 1, 0)):
            self.assertEqual(bound(book, at), ("x",), at)
        for at in ((0, 0, 1, 0, 0), (0, 0, 1, 0, 0, 0, 0)):
            self.assertEqual(bound(book, at), ("x", "y"), at)

    def test_a_body_without_names(self):
        book = read("{piece a() body 0}{body()}{end}{piece b(x)}{use a() with }{x}{end}{end}")
        self.assertEqual(bound(book, (1, 0, 0)), ("x",))


if __name__ == "__main__":
    unittest.main()

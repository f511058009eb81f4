import unittest

from formsmith.books import read
from formsmith.errors import BadText
from formsmith.signs import signs

HUGE = 10 ** 3999
NAMES = ("a", "b", "c", "d", "e", "f", "g")


def nested(thing, many):
    for k in range(many):
        thing = [thing] if k % 2 else {"a": thing}
    return thing


NO_TEXTS = (None, 0, 7, True, False, HUGE, -HUGE, [], ["{piece a()}{end}"], (), {}, {"a": "b"}, 1.5, b"{piece a()}{end}",
            object(), nested([], 59), str)


def piece(inside, head="a()"):
    return "{piece " + head + "}" + inside + "{end}"


def book(*nodes):
    return (("piece", "a", (), None, nodes),)


def at_of(text):
    """The at with which the text is refused."""
    try:
        read(text)
    except BadText as error:
        return error.at
    return "not refused"


# The nodes that are read of what stands in a piece.
NODES = {
    "": (),
    "x": (("text", "x"),),
    " \n": (("text", " \n"),),
    "{(}": (("text", "{"),),
    "{)}": (("text", "}"),),
    "a{(}b{)}c": (("text", "a{b}c"),),
    "{(}{(}{)}": (("text", "{{}"),),
    "{(}x{y}{)}": (("text", "{x"), ("place", ("y",), "plain"), ("text", "}")),
    "{x}": (("place", ("x",), "plain"),),
    "{x.y.z.w as number}": (("place", ("x", "y", "z", "w"), "number"),),
    "{x as word}{x as quoted}{x as plain}{x as line}": (
        ("place", ("x",), "word"), ("place", ("x",), "quoted"), ("place", ("x",), "plain"), ("place", ("x",), "line")),
    "{for x in y}{end}": (("loop", "x", ("y",), (), ""),),
    "{for x in y.z}a{x}{end}b": (
        ("loop", "x", ("y", "z"), (("text", "a"), ("place", ("x",), "plain")), ""), ("text", "b")),
    "{for x in y}{x}{between}{end}": (("loop", "x", ("y",), (("place", ("x",), "plain"),), ""),),
    "{for x in y}{x}{between}, {end}": (("loop", "x", ("y",), (("place", ("x",), "plain"),), ", "),),
    "{for x in y}{between}a{(}b{)}\n{end}": (("loop", "x", ("y",), (), "a{b}\n"),),
    "{for x in y}{between}{(}{end}": (("loop", "x", ("y",), (), "{"),),
    "{for x in y}a{between}b{end}c": (("loop", "x", ("y",), (("text", "a"),), "b"), ("text", "c")),
    "{for x in y}{for x in x}{between}1{end}{between}2{end}": (
        ("loop", "x", ("y",), (("loop", "x", ("x",), (), "1"),), "2"),),
    "{if x}{end}": (("choice", ("x",), (), ()),),
    "{if x}{else}{end}": (("choice", ("x",), (), ()),),
    "{if x.y}a{end}": (("choice", ("x", "y"), (("text", "a"),), ()),),
    "{if x}a{else}{end}": (("choice", ("x",), (("text", "a"),), ()),),
    "{if x}{else}b{end}": (("choice", ("x",), (), (("text", "b"),)),),
    "a{if x}b{else}c{end}d": (("text", "a"), ("choice", ("x",), (("text", "b"),), (("text", "c"),)), ("text", "d")),
    "{if x}{if y}1{else}2{end}{else}{if z}3{end}4{end}": (
        ("choice", ("x",), (("choice", ("y",), (("text", "1"),), (("text", "2"),)),),
         (("choice", ("z",), (("text", "3"),), ()), ("text", "4"))),),
    "{use b()}": (("use", "b", (), None, None),),
    "{use b(x, y.z)}": (("use", "b", (("x",), ("y", "z")), None, None),),
    "{use b() with }{end}": (("use", "b", (), (), ()),),
    "{use b(x) with y, z}{y}t{end}": (
        ("use", "b", (("x",),), ("y", "z"), (("place", ("y",), "plain"), ("text", "t"))),),
    "{use b() with x}{use c() with }{body()}{end}{end}": (
        ("use", "b", (), ("x",), (("use", "c", (), (), (("body", ()),)),)),),
    "{body()}": (("body", ()),),
    "{body(x, y.z, w)}": (("body", (("x",), ("y", "z"), ("w",))),),
    "{for x in y}{if x}{use b() with }t{end}{end}{between};{end}": (
        ("loop", "x", ("y",), (("choice", ("x",), (("use", "b", (), (), (("text", "t"),)),), ()),), ";"),),
}

# Texts that stand in a piece, and at which sign of them the text is refused.
REFUSED_WITHIN = {
    # commands that are none
    "{}": 0, "{ }": 0, "x{}": 1, "{x }": 0, "{x.y.z.w.v}": 0, "{x as}": 0, "{use b}": 0, "{end }": 0, "{x}{Y}": 3,
    "{a{b}": 0, "{{(}": 0, "{\n}": 0, "ab{piece}": 2, "{if}": 0, "{for x in}": 0, "{body}": 0, "{a}{b}{(a}": 6,
    # a brace that ends no command
    "}": 0, "a}": 1, "{x}}": 3, "{(}}": 3, "{(}a}": 4, "\n}": 1, "{for x in y}{between}}": 21,
    # an else without its if right round it, or a second one
    "{else}": 0, "a{else}": 1, "{for x in y}{else}": 12, "{use b() with }{else}": 15, "{if x}{else}{else}": 12,
    "{if x}a{else}b{else}": 14, "{if x}{for y in z}{else}": 18, "{if x}{use b() with }{else}": 21, "{if x}{end}{else}": 11,
    "{if x}{else}{if y}{else}{end}{else}": 29, "{for x in y}{between}{else}": 21,
    # a between without its for right round it, or a second one
    "{between}": 0, "{if x}{between}": 6, "{use b() with }{between}": 15, "{for x in y}{if x}{between}": 18,
    "{for x in y}{between}{between}": 21, "{for x in y}{between}a{between}": 22, "{for x in y}{end}{between}": 17,
    "{for x in y}{if x}{end}{between}{between}": 32,
    # anything but braces behind a between
    "{for x in y}{between}{x}": 21, "{for x in y}{between}a{if x}": 22, "{for x in y}{between}{(}{for x in y}": 24,
    "{for x in y}{between}{use b()}": 21, "{for x in y}{between}{use b() with }": 21, "{for x in y}{between}{body()}": 21,
    "{for x in y}{between}{piece b()}": 21,
    # a piece within a piece
    "{piece b()}": 0, "{if x}{piece b()}": 6,
    # more names or paths than told
    "{use b(x, x, x, x, x)}": 0, "{use b(x, x, x, x, x) with }": 0, "{use b() with x, x, x, x}": 0, "{body(x, x, x, x)}": 0,
    "t{body(x, x, x, x)}": 1, "{use b(x, x, x, x, x, x)}": 0, "{use b() with a, b, c, d, e}": 0,
}


class ReadTests(unittest.TestCase):

    def test_nodes(self):
        for inside, nodes in NODES.items():
            self.assertEqual(read(piece(inside)), book(*nodes), inside)

    def test_tuples_all_through(self):
        for inside, nodes in NODES.items():
            self.assertEqual(repr(read(piece(inside))), repr(book(*nodes)))

    def test_pieces(self):
        self.assertEqual(read("{piece a()}{end}"), (("piece", "a", (), None, ()),))
        self.assertEqual(read("{piece a(b)}x{end}"), (("piece", "a", ("b",), None, (("text", "x"),)),))
        self.assertEqual(read("{piece a(b, c, d, e) body 3}{end}"), (("piece", "a", ("b", "c", "d", "e"), 3, ()),))
        self.assertEqual(read("{piece a() body 0}{end}"), (("piece", "a", (), 0, ()),))

    def test_blanks_and_line_ends_between_pieces(self):
        want = (("piece", "a", (), None, ()), ("piece", "b", (), None, (("text", " \n"),)))
        for blank in ("", " ", "\n", "  ", " \n\n ", "\n \n"):
            text = blank + "{piece a()}{end}" + blank + "{piece b()} \n{end}" + blank
            self.assertEqual(read(text), want)

    def test_eight_pieces_and_nine(self):
        eight = "".join(piece("", name + "()") for name in "abcdefgh")
        self.assertEqual([row[1] for row in read(eight)], list("abcdefgh"))
        self.assertEqual(at_of(eight + piece("", "i()")), len(eight))
        self.assertEqual(at_of(eight + " \n{piece i()}"), len(eight) + 2)

    def test_names_are_not_looked_into(self):
        self.assertEqual(len(read(piece("{use nowhere(x) with y, y}{body(q)}{z}{end}") * 2)), 2)

    def test_texts_of_just_4000_signs(self):
        inside = "x" * (4000 - len(piece("")))
        self.assertEqual(read(piece(inside)), book(("text", inside)))
        self.assertEqual(read(piece("") + " " * (4000 - len(piece("")))), book())
        self.assertIsNone(at_of(piece(inside + "x")))
        self.assertIsNone(at_of("}" + "x" * 4000))
        self.assertEqual(at_of("}" + "x" * 3999), 0)

    def test_the_200th_and_the_201st_node(self):
        for one in ("{x}", "{use b()}", "{body()}", "{if x}{end}", "{for x in y}{end}"):
            text = piece(one * 200)
            self.assertEqual(len(read(text)[0][4]), 200)
            at = len("{piece a()}") + 200 * len(one)
            self.assertEqual(at_of(piece(one * 201)), at)
            self.assertEqual(at_of(piece(one * 200 + "abc")), at)
            self.assertEqual(at_of(piece(one * 200 + "{(}")), at)

    def test_nodes_count_wherever_they_stand(self):
        one = "{if x}a{else}{for y in z}{y}{between}, {end}{end}"
        self.assertEqual(len(read(piece(one * 50))[0][4]), 50)
        self.assertEqual(at_of(piece(one * 50 + "t")), len("{piece a()}") + 50 * len(one))
        first = piece("{x}" * 150)
        self.assertEqual(len(read(first + piece("{y}" * 50))), 2)
        self.assertEqual(at_of(first + piece("{y}" * 50 + " ")), len(first) + len("{piece a()}") + 150)
        inside = "{use b() with }" + "{x}" * 199
        self.assertEqual(at_of(piece(inside + "{end}")), "not refused")
        self.assertEqual(at_of(piece(inside + "a{end}")), len("{piece a()}") + len(inside))

    def test_a_text_counts_once(self):
        text = piece("{x}a{(}b" * 100)
        self.assertEqual(len(read(text)[0][4]), 200)
        self.assertEqual(at_of(piece("{x}a{(}b" * 100 + "{)}{y}")), len("{piece a()}") + 100 * 8 + 3)

    def test_between_is_no_node(self):
        text = piece("{for x in y}{between},{end}" * 100 + "{x}" * 100)
        self.assertEqual(len(read(text)[0][4]), 200)

    def test_nodes_8_and_9_deep(self):
        for opening in ("{if x}", "{for x in y}", "{use b() with }", "{if x}{else}"):
            for inmost in ("t", "{(}", "{x}", "{use b()}", "{body()}", "{if x}{end}", "{for x in y}{end}"):
                self.assertEqual(at_of(piece(opening * 7 + inmost + "{end}" * 7)), "not refused")
                at = len("{piece a()}") + 8 * len(opening)
                self.assertEqual(at_of(piece(opening * 8 + inmost + "{end}" * 8)), at)
        self.assertEqual(at_of(piece("{if x}" * 8 + "{end}" * 8)), "not refused")
        self.assertEqual(at_of(piece("{for x in y}" * 8 + "{between}, " + "{end}" * 8)), "not refused")
        self.assertEqual(at_of(piece("{if x}" * 8 + "{else}" + "{end}" * 8)), "not refused")

    def test_depth_ends_with_its_end(self):
        text = piece(("{if x}" * 7 + "t" + "{end}" * 7) * 3)
        self.assertEqual(len(read(text)[0][4]), 3)

    def test_as_many_names_and_paths_as_told(self):
        four, three = "x, x, x, x", "x, x, x"
        self.assertEqual(len(read(piece("", f"a({four})"))[0][2]), 4)
        node = read(piece(f"{{use b({four}) with {three}}}{{end}}"))[0][4][0]
        self.assertEqual((len(node[2]), len(node[3])), (4, 3))
        self.assertEqual(len(read(piece(f"{{use b({four})}}"))[0][4][0][2]), 4)
        self.assertEqual(len(read(piece(f"{{body({three})}}"))[0][4][0][1]), 3)

    def test_a_name_more_in_a_piece(self):
        five = "{piece a(b, c, d, e, f)}{end}"
        self.assertEqual(at_of(five), 0)
        self.assertEqual(at_of(" \n" + five), 2)
        self.assertEqual(at_of(piece("") + five), len(piece("")))
        self.assertEqual(at_of("{piece a(b, c, d, e, f) body 1}{end}"), 0)

    def test_asked_again_the_same_is_told(self):
        for inside in NODES:
            self.assertEqual(read(piece(inside)), read(piece(inside)))


class BadTextTests(unittest.TestCase):

    def test_what_is_no_text(self):
        for thing in NO_TEXTS:
            self.assertIsNone(at_of(thing))

    def test_a_sign_that_is_none(self):
        good = piece("{x}a")
        for at in range(len(good) + 1):
            self.assertIsNone(at_of(good[:at] + "\t" + good[at:]))
        self.assertIsNone(at_of("}\t"))

    def test_refused_in_a_piece(self):
        for inside, at in REFUSED_WITHIN.items():
            for ahead in ("", " ", "\n\n", piece("{b}x")):
                want = len(ahead) + len("{piece a()}") + at
                self.assertEqual(at_of(ahead + "{piece a()}" + inside), want, inside)
                self.assertEqual(at_of(ahead + piece(inside)), want, inside)
                self.assertEqual(at_of(ahead + piece(inside) + "}"), want, inside)

    def test_a_command_that_ends_nowhere(self):
        for inside, at in (("{", 0), ("ab{x", 2), ("{x}{", 3), ("{(}{(", 3), ("{end}{", 5), ("{end} {piece b()", 6)):
            self.assertEqual(at_of("{piece a()}" + inside), len("{piece a()}") + at)
        self.assertEqual(at_of("{"), 0)
        self.assertEqual(at_of("{piece a()"), 0)
        self.assertEqual(at_of(" {piece a()"), 1)

    def test_an_unended_command_takes_the_next_ones_brace(self):
        self.assertEqual(at_of("{piece a(){end}"), 0)
        self.assertEqual(at_of("{piece a()}{x{end}"), 11)

    def test_other_signs_outside_of_pieces(self):
        good = piece("x")
        for sign in signs().replace("{", "").replace(" ", "").replace("\n", ""):
            for text, at in ((sign, 0), (" " + sign + good, 1), (good + sign, len(good)),
                             (good + "\n " + sign + good, len(good) + 2), (good + good + " " + sign, 2 * len(good) + 1)):
                self.assertEqual(at_of(text), at, text)

    def test_other_commands_outside_of_pieces(self):
        good = piece("x")
        commands = ("{(}", "{)}", "{x}", "{x as word}", "{for x in y}", "{if x}", "{else}", "{between}", "{end}",
                    "{use a()}", "{use a() with }", "{body()}", "{}", "{nothing at all}")
        for command in commands:
            for ahead in ("", " ", "\n", good, good + " "):
                self.assertEqual(at_of(ahead + command), len(ahead), command)
                self.assertEqual(at_of(ahead + command + good), len(ahead), command)

    def test_open_at_the_texts_end(self):
        for text in ("{piece a()}", "{piece a()}x", "{piece a()}{if x}", "{piece a()}{if x}{end}", "{piece a()}{for x in y}",
                     "{piece a()}{for x in y}{between}", "{piece a()}{for x in y}{between}t", "{piece a()}{if x}{else}",
                     "{piece a()}{use b() with }", piece("") + "{piece b()}", "{piece a()}{if x}{if y}{end}{end} "):
            self.assertEqual(at_of(text), len(text), text)

    def test_no_piece(self):
        for text in ("", " ", "\n", " \n ", " " * 4000):
            self.assertEqual(at_of(text), len(text))

    def test_the_first_of_two_counts(self):
        head = len("{piece a()}")
        rows = (
            ("{X}}", head), ("}{X}", head), ("{else}{between}", head), ("a}{piece b()}", head + 1),
            ("{x}" * 200 + "t}", head + 600), ("{x}" * 199 + "}t{y}", head + 597), ("{if x}" * 8 + "t{else}}", head + 48),
            ("{if x}{if x}}" + "{if x}" * 8 + "t", head + 12), ("{body(x, x, x, x)}{}", head), ("{}{body(x, x, x, x)}", head),
            ("{end}x{", head + 5), ("{end}{end}x", head + 5), ("{end} \n}{piece b()}", head + 7), ("{if x}{X", head + 6),
            ("}", head), ("{if x}}", head + 6),
        )
        for inside, at in rows:
            self.assertEqual(at_of("{piece a()}" + inside), at, inside)

    def test_the_ninth_piece_and_others(self):
        eight = "".join(piece("", name + "()") for name in "abcdefgh")
        self.assertEqual(at_of(eight + "{piece i()}}"), len(eight))
        self.assertEqual(at_of(eight + "x{piece i()}"), len(eight))
        self.assertEqual(at_of(eight[:-5] + "}{end}{piece i()}"), len(eight) - 5)


if __name__ == "__main__":
    unittest.main()

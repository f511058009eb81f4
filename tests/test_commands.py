import unittest

from formsmith.commands import command_of

RESERVED = ("as", "between", "body", "else", "end", "for", "if", "in", "piece", "use", "with")
NO_NAMES = RESERVED + ("", "A", "aB", "a1", "1", "nineletts", "a_b", "a-b", "a\n", "\t", "(", "{")

GOOD = {
    "(": ("open",), ")": ("close",), "end": ("end",), "else": ("else",), "between": ("between",),
    "a": ("place", ("a",), "plain"), "abcdefgh": ("place", ("abcdefgh",), "plain"),
    "a.b": ("place", ("a", "b"), "plain"), "a.b.c.d": ("place", ("a", "b", "c", "d"), "plain"),
    "a.a.a": ("place", ("a", "a", "a"), "plain"), "open": ("place", ("open",), "plain"),
    "place": ("place", ("place",), "plain"), "word": ("place", ("word",), "plain"),
    "ends": ("place", ("ends",), "plain"), "forx": ("place", ("forx",), "plain"), "iff": ("place", ("iff",), "plain"),
    "a as word": ("place", ("a",), "word"), "a as number": ("place", ("a",), "number"),
    "a as quoted": ("place", ("a",), "quoted"), "a as plain": ("place", ("a",), "plain"),
    "a.b.c.d as line": ("place", ("a", "b", "c", "d"), "line"), "word as word": ("place", ("word",), "word"),
    "for x in xs": ("for", "x", ("xs",)), "for x in x": ("for", "x", ("x",)),
    "for abcdefgh in a.b.c.d": ("for", "abcdefgh", ("a", "b", "c", "d")),
    "if a": ("if", ("a",)), "if a.b.c.d": ("if", ("a", "b", "c", "d")),
    "use a()": ("use", "a", (), None), "use a(b)": ("use", "a", (("b",),), None),
    "use a(b.c, d)": ("use", "a", (("b", "c"), ("d",)), None),
    "use a(a, a, a, a)": ("use", "a", (("a",),) * 4, None),
    "use a() with ": ("use", "a", (), ()), "use a() with b": ("use", "a", (), ("b",)),
    "use a(b.c, d.e.f.g) with h, i, j": ("use", "a", (("b", "c"), ("d", "e", "f", "g")), ("h", "i", "j")),
    "use a() with b, b": ("use", "a", (), ("b", "b")),
    "body()": ("body", ()), "body(a)": ("body", (("a",),)), "body(a.b, c)": ("body", (("a", "b"), ("c",))),
    "piece a()": ("piece", "a", (), None), "piece a(b)": ("piece", "a", ("b",), None),
    "piece a(b, c, d, e)": ("piece", "a", ("b", "c", "d", "e"), None),
    "piece a() body 0": ("piece", "a", (), 0), "piece a(b) body 1": ("piece", "a", ("b",), 1),
    "piece a(b, c) body 2": ("piece", "a", ("b", "c"), 2), "piece a() body 3": ("piece", "a", (), 3),
    "piece a(b, b)": ("piece", "a", ("b", "b"), None),
}

# Blanks, commas, points and brackets more or fewer than shown; words in a wrong place.
BAD = (
    "", " ", "\n", "\t", "((", "))", "()", ")(", "( ", " (", "{", "{(", "a{", "end ", " end", "End", "endd end", "else ",
    "else if a", "between ", "between ,", "a b", "a ", " a", "a\n", "a.", ".a", ".", "a..b", "a. b", "a .b", "a, b", "a,b",
    "a()", "a.b.c.d.e", "a.b.c.d.e as word", "a as", "a as ", "a  as word", "a as  word", "a as word ", "a as Word",
    "a as words", "a as tree", "a as b", "as", "as word", " as word", "a as word as word", "a.as", "a as as",
    "for", "for ", "for x", "for x in", "for x in ", "for in xs", "for  in xs", "for x  in xs", "for x in  xs",
    "for x in xs ", " for x in xs", "for x.y in xs", "for x, y in xs", "for x of xs", "for x in xs.", "for x in a.b.c.d.e",
    "for x in xs as word", "for x in xs in ys", "for(x) in xs", "forx in xs", "for x inxs", "for X in xs",
    "if", "if ", "if  a", "if a ", " if a", "if not a", "if a.", "if a as word", "if a.b.c.d.e", "if a, b", "if(a)", "ifa b",
    "use", "use ", "use a", "use a(", "use a)", "use a)(", "use ()", "use (b)", "use a ()", "use a( )", "use a(b,c)",
    "use a(b , c)", "use a(b,  c)", "use a(b, )", "use a(, b)", "use a(,)", "use a(, )", "use a(b)(c)", "use a((b))",
    "use a(b))", "use a()b", "use a() ", "use a( b)", "use a(b )", "use  a()", " use a()", "use a.b()", "use a(b.)",
    "use a(b.c.d.e.f)", "use a() with", "use a()with ", "use a()  with ", "use a() with  ", "use a() with b,c",
    "use a() with b, ", "use a() with , b", "use a() with b.c", "use a() with (b)", "use a() with b ", "use a() with  b",
    "use a() with b with c", "use a() as word", "use a() body 1", "use a, b()", "usea()", "use a(b c)",
    "body", "body ", "body(", "body)", "body ()", "body( )", "body() ", " body()", "body()()", "body(a,b)", "body(a, )",
    "body(, a)", "body(a b)", "body(a.b.c.d.e)", "body(()", "body())", "body() with ", "body(a) with b", "body 1",
    "bodya(b)", "body.a", "body(a", "body a)",
    "piece", "piece ", "piece a", "piece a(", "piece a)", "piece ()", "piece a ()", "piece a( )", "piece a(b,c)",
    "piece a(b, )", "piece a(, b)", "piece a(b.c)", "piece a() ", "piece  a()", " piece a()", "piece a.b()", "piece a()()",
    "piece a() body", "piece a() body ", "piece a() body 4", "piece a() body 9", "piece a() body -1", "piece a() body 10",
    "piece a() body 01", "piece a() body 1 ", "piece a() body  1", "piece a()body 1", "piece a()  body 1",
    "piece a() body x", "piece a() body(1)", "piece a() body 1, 2", "piece a() with ", "piecea()", "piece a(b c)",
    "piece a() Body 1", "piece a() body 1 body 1",
)


class CommandTests(unittest.TestCase):

    def check(self, text, want):
        told = command_of(text)
        self.assertEqual(told, want, text)
        self.assertEqual(repr(told), repr(want), text)

    def test_commands(self):
        for text, want in GOOD.items():
            self.check(text, want)

    def test_a_many_is_a_whole_number(self):
        for many in range(4):
            told = command_of(f"piece a() body {many}")
            self.assertIs(type(told[3]), int)
            self.assertEqual(told[3], many)

    def test_how_many_there_are_is_not_looked_at(self):
        for many in (5, 6, 9, 40):
            names = ("ab",) * many
            inside = ", ".join(names)
            paths = ((("ab",),) * many)
            self.check(f"use a({inside})", ("use", "a", paths, None))
            self.check(f"use a({inside}) with {inside}", ("use", "a", paths, names))
            self.check(f"body({inside})", ("body", paths))
            self.check(f"piece a({inside})", ("piece", "a", names, None))

    def test_none(self):
        for text in BAD:
            self.check(text, None)

    def test_names_that_are_none(self):
        shapes = (
            "{}.b", "b.{}", "{} as word", "b.{}.c as line", "for {} in b", "for b in {}", "for b in c.{}", "if {}",
            "if b.{}", "use {}()", "use b(c, {})", "use b({}, c)", "use b(c.{})", "use b() with {}, c",
            "use b() with c, {}", "body(b, {})", "body({}, b)", "body(b.{})", "piece {}()", "piece b({}, c)",
            "piece b(c, {})", "piece b(c, {}) body 2",
        )
        for shape in shapes:
            head, tail = shape.split("{}")
            self.assertIsNotNone(command_of(head + "name" + tail), shape)
            for name in NO_NAMES:
                self.check(head + name + tail, None)

    def test_a_blank_more_or_fewer(self):
        for text in GOOD:
            for at in range(len(text) + 1):
                more = text[:at] + " " + text[at:]
                self.check(more, ("if", ("f",)) if more == "if f" else None)
            for at in range(len(text)):
                if text[at] == " ":
                    fewer = text[:at] + text[at + 1:]
                    self.assertNotEqual(command_of(fewer), GOOD[text], fewer)

    def test_a_comma_or_bracket_more(self):
        for text in GOOD:
            for at in range(len(text) + 1):
                for sign in ",()":
                    self.check(text[:at] + sign + text[at:], None)

    def test_asked_again_the_same_is_told(self):
        for text in list(GOOD) + list(BAD):
            self.assertEqual(command_of(text), command_of(text))


if __name__ == "__main__":
    unittest.main()

import unittest

from formsmith.books import read
from formsmith.compiling import compiled
from formsmith.scopes import need_book
from makers import good_books

BACK = ("back",)

# Books by their texts, and the blocks to which they are compiled.
ROWS = (
    ("{piece m()}{end}", [[BACK]]),
    ("{piece m()}a{(}{end}", [[("write", "a{"), BACK]]),
    # places and paths
    ("{piece m(x)}{x}{end}", [[("load", 0), ("put", "plain"), BACK]]),
    ("{piece m(x, y)}t{y.f.g.h as word}{x as number}{end}",
     [[("write", "t"), ("load", 1), ("field", "f"), ("field", "g"), ("field", "h"), ("put", "word"), ("load", 0), ("put", "number"), BACK]]),
    # loops
    ("{piece m(x)}{for a in x}{end}{end}", [[("load", 0), ("walk",), ("round", 1, 1, ""), ("again", 1), BACK]]),
    ("{piece m(x)}{for a in x.f}<{a}{between}, {end}{end}",
     [[("load", 0), ("field", "f"), ("walk",), ("round", 1, 4, ", "), ("write", "<"), ("load", 1), ("put", "plain"), ("again", 4), BACK]]),
    ("{piece m(x)}{for a in x}{for b in a}{b}{a}{x}{end}{end}{for c in x}{c}{end}{end}",
     [[("load", 0), ("walk",), ("round", 1, 11, ""), ("load", 1), ("walk",), ("round", 2, 7, ""), ("load", 2), ("put", "plain"),
       ("load", 1), ("put", "plain"), ("load", 0), ("put", "plain"), ("again", 7), ("again", 11),
       ("load", 0), ("walk",), ("round", 1, 3, ""), ("load", 1), ("put", "plain"), ("again", 3), BACK]]),
    # names bound anew
    ("{piece m(x)}{for x in x}{for x in x}{x}{end}{x}{end}{x}{end}",
     [[("load", 0), ("walk",), ("round", 1, 9, ""), ("load", 1), ("walk",), ("round", 2, 3, ""), ("load", 2), ("put", "plain"),
       ("again", 3), ("load", 1), ("put", "plain"), ("again", 9), ("load", 0), ("put", "plain"), BACK]]),
    # choices
    ("{piece m(x)}{if x}{end}{end}", [[("load", 0), ("unless", 0), BACK]]),
    ("{piece m(x)}{if x.t}a{end}b{end}", [[("load", 0), ("field", "t"), ("unless", 1), ("write", "a"), ("write", "b"), BACK]]),
    ("{piece m(x)}{if x}a{else}b{end}c{end}",
     [[("load", 0), ("unless", 2), ("write", "a"), ("skip", 1), ("write", "b"), ("write", "c"), BACK]]),
    ("{piece m(x)}{if x}{else}{x}b{end}{end}",
     [[("load", 0), ("unless", 1), ("skip", 3), ("load", 0), ("put", "plain"), ("write", "b"), BACK]]),
    ("{piece m(x)}{if x}{if x}a{else}b{end}{else}{if x}c{end}{end}{end}",
     [[("load", 0), ("unless", 6), ("load", 0), ("unless", 2), ("write", "a"), ("skip", 1), ("write", "b"), ("skip", 3),
       ("load", 0), ("unless", 1), ("write", "c"), BACK]]),
    ("{piece m(x)}{for a in x}{if a}b{else}c{end}{end}{end}",
     [[("load", 0), ("walk",), ("round", 1, 6, ""), ("load", 1), ("unless", 2), ("write", "b"), ("skip", 1), ("write", "c"),
       ("again", 6), BACK]]),
    # uses
    ("{piece p()}{end}{piece m()}{use p()}{end}", [[BACK], [("use", 0, 0, None, 0), BACK]]),
    ("{piece o()}o{end}{piece p(a, b)}{b}{end}{piece m(x)}{use p(x.f.g, x)}{for y in x}{use p(y, x)}{use o()}{end}{end}",
     [[("write", "o"), BACK], [("load", 1), ("put", "plain"), BACK],
      [("load", 0), ("field", "f"), ("field", "g"), ("load", 0), ("use", 1, 2, None, 1),
       ("load", 0), ("walk",), ("round", 1, 5, ""), ("load", 1), ("load", 0), ("use", 1, 2, None, 2), ("use", 0, 0, None, 2),
       ("again", 5), BACK]]),
    # bodies: without nodes, without names, with names bound anew
    ("{piece p() body 0}{body()}{end}{piece m()}{use p() with }{end}{end}",
     [[("body", 0), BACK], [("use", 0, 0, 2, 0), BACK], [BACK]]),
    ("{piece p(a) body 2}{body(a.f, a)}{end}{piece m(x, y)}{use p(y) with x, z}{x}{y}{z}{end}{x}{end}",
     [[("load", 0), ("field", "f"), ("load", 0), ("body", 2), BACK],
      [("load", 1), ("use", 0, 1, 2, 2), ("load", 0), ("put", "plain"), BACK],
      [("load", 2), ("put", "plain"), ("load", 1), ("put", "plain"), ("load", 3), ("put", "plain"), BACK]]),
    ("{piece p(a) body 1}{body(a)}{end}{piece m(x)}{for y in x}{use p(y) with z}{for x in z}{x}{y}{z}{end}{end}{end}{end}",
     [[("load", 0), ("body", 1), BACK],
      [("load", 0), ("walk",), ("round", 1, 3, ""), ("load", 1), ("use", 0, 1, 2, 2), ("again", 3), BACK],
      [("load", 2), ("walk",), ("round", 3, 7, ""), ("load", 3), ("put", "plain"), ("load", 1), ("put", "plain"),
       ("load", 2), ("put", "plain"), ("again", 7), BACK]]),
    # the order of blocks: piece by piece, each ahead of those within it
    ("{piece p() body 0}{body()}{end}"
     "{piece q() body 0}{use p() with }1{use p() with }2{body()}{end}{end}{use p() with }3{end}{end}"
     "{piece m(x)}{if x}{use q() with }4{use p() with }5{end}{use q() with }6{end}{end}{else}{use p() with }7{end}{end}{use p() with }8{end}{end}",
     [[("body", 0), BACK],
      [("use", 0, 0, 3, 0), ("use", 0, 0, 5, 0), BACK],
      [("load", 0), ("unless", 2), ("use", 1, 0, 6, 1), ("skip", 1), ("use", 0, 0, 9, 1), ("use", 0, 0, 10, 1), BACK],
      [("write", "1"), ("use", 0, 0, 4, 0), BACK],
      [("write", "2"), ("body", 0), BACK],
      [("write", "3"), BACK],
      [("write", "4"), ("use", 0, 0, 7, 1), ("use", 1, 0, 8, 1), BACK],
      [("write", "5"), BACK],
      [("write", "6"), BACK],
      [("write", "7"), BACK],
      [("write", "8"), BACK]]),
    # slots in bodies of bodies
    ("{piece p(a) body 1}{for b in a}{body(b)}{end}{end}{piece m(x)}{use p(x) with y}{for w in y}{use p(w) with z}{z}{w}{y}{x}{end}{end}{end}{end}",
     [[("load", 0), ("walk",), ("round", 1, 3, ""), ("load", 1), ("body", 1), ("again", 3), BACK],
      [("load", 0), ("use", 0, 1, 2, 1), BACK],
      [("load", 1), ("walk",), ("round", 2, 3, ""), ("load", 2), ("use", 0, 1, 3, 3), ("again", 3), BACK],
      [("load", 3), ("put", "plain"), ("load", 2), ("put", "plain"), ("load", 1), ("put", "plain"), ("load", 0), ("put", "plain"), BACK]]),
)


def bodies_in(nodes):
    """How many uses with a body stand in these nodes, and in those within."""
    found = 0
    for node in nodes:
        if node[0] == "loop":
            found += bodies_in(node[3])
        elif node[0] == "choice":
            found += bodies_in(node[2]) + bodies_in(node[3])
        elif node[0] == "use" and node[4] is not None:
            found += 1 + bodies_in(node[4])
    return found


class CompiledTests(unittest.TestCase):

    def test_rows(self):
        for text, blocks in ROWS:
            book = read(text)
            need_book(book)
            want = tuple(tuple(block) for block in blocks)
            self.assertEqual(repr(compiled(book)), repr(want), text)

    def test_a_block_for_each_piece_and_body(self):
        for seed, book, values in good_books(200):
            program = compiled(book)
            self.assertEqual(len(program), len(book) + sum(bodies_in(piece[4]) for piece in book), seed)
            for block in program:
                self.assertIsInstance(block, tuple)
                self.assertEqual([place for place, row in enumerate(block) if row == BACK], [len(block) - 1])

    def test_jumps_stay_within_their_block(self):
        for seed, book, values in good_books(200):
            for block in compiled(book):
                for place, row in enumerate(block):
                    if row[0] == "round":
                        self.assertEqual(block[place + row[2]], ("again", row[2]))
                    elif row[0] in ("unless", "skip"):
                        self.assertLess(place + row[1] + 1, len(block))
                    elif row[0] == "again":
                        self.assertEqual(block[place - row[1]][0], "round")

    def test_six_names_and_paths(self):
        names = ("a", "b", "c", "d", "e", "f")
        paths = tuple((name,) for name in names)
        loads = tuple(("load", slot) for slot in range(6))
        elder = ("piece", "p", names, 6, (("body", paths),))
        main = ("piece", "m", names, None, (("use", "p", paths, names, (("place", ("f",), "word"),)),))
        want = (loads + (("body", 6), BACK), loads + (("use", 0, 6, 2, 6), BACK), (("load", 11), ("put", "word"), BACK))
        self.assertEqual(compiled((elder, main)), want)

    def test_asked_again_the_same_is_told(self):
        for text, blocks in ROWS:
            book = read(text)
            self.assertEqual(compiled(book), compiled(book))
            self.assertEqual(book, read(text))


if __name__ == "__main__":
    unittest.main()

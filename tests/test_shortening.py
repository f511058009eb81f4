import copy
import unittest

from formsmith.books import read
from formsmith.compiling import compiled
from formsmith.machine import Machine, run
from formsmith.shortening import shortened
from formsmith.writing import written
from makers import good_books

BACK = ("back",)
LOAD, PUT, WALK = ("load", 0), ("put", "plain"), ("walk",)

# A piece with nothing, one with one text, and one whose text is told by a place.
ELDERS = "{piece n()}{end}{piece t()}T{end}{piece p(a)}{a}{end}{piece u(a, b) body 1}U{end}"
ELDER_BLOCKS = ((BACK,), (("write", "T"), BACK), (LOAD, PUT, BACK), (("write", "U"), BACK))

# Nodes of a main(x) behind these elders, and the rows of its shortened block.
ROWS = (
    ("", [BACK]),
    ("a", [("write", "a"), BACK]),
    ("{x}", [LOAD, PUT, BACK]),
    # uses of blocks with nothing, and with one write
    ("{use n()}", [BACK]),
    ("{use t()}", [("write", "T"), BACK]),
    ("{use p(x)}", [LOAD, ("use", 2, 1, None, 1), BACK]),
    ("{x}{use n()}{x}", [LOAD, PUT, LOAD, PUT, BACK]),
    ("{x}{use t()}{x}", [LOAD, PUT, ("write", "T"), LOAD, PUT, BACK]),
    # with paths and with a body
    ("{x}{use u(x.f.g, x) with z}{z}{end}{x}", [LOAD, PUT, ("write", "U"), LOAD, PUT, BACK]),
    ("{use p(x.f)}{use u(x, x.g) with z}{end}", [LOAD, ("field", "f"), ("use", 2, 1, None, 1), ("write", "U"), BACK]),
    # writes side by side
    ("a{use n()}b", [("write", "ab"), BACK]),
    ("a{use t()}b{use t()}{use t()}", [("write", "aTbTT"), BACK]),
    ("a{use t()}{x}b{use n()}c", [("write", "aT"), LOAD, PUT, ("write", "bc"), BACK]),
    # with a jump to the second one
    ("{if x}a{end}b", [LOAD, ("unless", 1), ("write", "a"), ("write", "b"), BACK]),
    ("{if x}a{use t()}{end}b{use t()}", [LOAD, ("unless", 1), ("write", "aT"), ("write", "bT"), BACK]),
    ("{if x}a{else}b{end}c", [LOAD, ("unless", 2), ("write", "a"), ("skip", 1), ("write", "b"), ("write", "c"), BACK]),
    ("{if x}a{end}{use n()}b", [LOAD, ("unless", 1), ("write", "a"), ("write", "b"), BACK]),
    ("{if x}a{end}{use t()}b", [LOAD, ("unless", 1), ("write", "a"), ("write", "Tb"), BACK]),
    ("c{if x}a{end}", [("write", "c"), LOAD, ("unless", 1), ("write", "a"), BACK]),
    # jumps over rows that are gone
    ("{if x}{use n()}{end}b", [LOAD, ("unless", 0), ("write", "b"), BACK]),
    ("a{if x}{use n()}{use n()}{end}", [("write", "a"), LOAD, ("unless", 0), BACK]),
    ("{if x}{use u(x, x) with z}{end}{end}b", [LOAD, ("unless", 1), ("write", "U"), ("write", "b"), BACK]),
    ("{if x}{use n()}{else}{use n()}{end}b", [LOAD, ("unless", 1), ("skip", 0), ("write", "b"), BACK]),
    ("{if x}a{use n()}b{else}{use t()}c{end}d", [LOAD, ("unless", 2), ("write", "ab"), ("skip", 1), ("write", "Tc"), ("write", "d"), BACK]),
    ("{if x}{x}{else}{use n()}{x}{end}{use n()}{x}",
     [LOAD, ("unless", 3), LOAD, PUT, ("skip", 2), LOAD, PUT, LOAD, PUT, BACK]),
    ("{if x}{use p(x.f)}{use n()}{else}{use u(x, x) with z}{end}{use p(x)}{end}",
     [LOAD, ("unless", 4), LOAD, ("field", "f"), ("use", 2, 1, None, 1), ("skip", 3), ("write", "U"), LOAD, ("use", 2, 1, None, 1), BACK]),
    # loops
    ("{for y in x}{use n()}{end}", [LOAD, WALK, ("round", 1, 1, ""), ("again", 1), BACK]),
    ("{for y in x}a{use t()}{between}, {end}b", [LOAD, WALK, ("round", 1, 2, ", "), ("write", "aT"), ("again", 2), ("write", "b"), BACK]),
    ("a{use t()}{for y in x}{use u(y, x) with z}{end}{y}{use n()}{end}{use n()}b{use n()}c",
     [("write", "aT"), LOAD, WALK, ("round", 1, 4, ""), ("write", "U"), ("load", 1), PUT, ("again", 4), ("write", "bc"), BACK]),
    ("{for y in x}{for z in y}{use n()}{end}{use t()}{use t()}{end}",
     [LOAD, WALK, ("round", 1, 6, ""), ("load", 1), WALK, ("round", 2, 1, ""), ("again", 1), ("write", "TT"), ("again", 6), BACK]),
    ("{for y in x}{if y}{use t()}{else}{use n()}{end}{use t()}{end}",
     [LOAD, WALK, ("round", 1, 6, ""), ("load", 1), ("unless", 2), ("write", "T"), ("skip", 0), ("write", "T"), ("again", 6), BACK]),
)

# Whole books, and their shortened programs.
BOOKS = (
    # several texts, and uses that come to such
    ("{piece n()}{end}{piece a()}1{use n()}2{end}{piece b(x)}{use a()}3{use a()}{end}{piece m(x)}0{use b(x)}4{end}",
     ((BACK,), (("write", "12"), BACK), (("write", "12312"), BACK), (("write", "0123124"), BACK))),
    ("{piece n()}{end}{piece o()}{use n()}{use n()}{end}{piece m()}{use o()}{end}", ((BACK,), (BACK,), (BACK,))),
    # a block of two writes that stay two is not small
    ("{piece a(x)}{if x}1{end}2{end}{piece m(x)}0{use a(x)}3{end}",
     ((LOAD, ("unless", 1), ("write", "1"), ("write", "2"), BACK),
      (("write", "0"), LOAD, ("use", 0, 1, None, 1), ("write", "3"), BACK))),
    # blocks of bodies stay, and are shortened, too; a body's row stays
    ("{piece t()}T{end}{piece w() body 0}{body()}{end}{piece m()}{use w() with }a{use t()}{end}{use w() with }{use w() with }{end}{end}{end}",
     ((("write", "T"), BACK), (("body", 0), BACK), (("use", 1, 0, 3, 0), ("use", 1, 0, 4, 0), BACK), (("write", "aT"), BACK),
      (("use", 1, 0, 5, 0), BACK), (BACK,))),
    ("{piece w() body 0}w{end}{piece m(x)}{use w() with }{x}{use w() with }b{end}{end}{end}",
     ((("write", "w"), BACK), (("write", "w"), BACK), (LOAD, PUT, ("write", "w"), BACK), (("write", "b"), BACK))),
)


def steps_of(program, main, values):
    machine = Machine(program, main, values)
    while machine.step():
        pass
    return machine.steps()


class ShortenedTests(unittest.TestCase):

    def test_rows(self):
        for inside, rows in ROWS:
            program = shortened(compiled(read(ELDERS + "{piece m(x)}" + inside + "{end}")))
            self.assertEqual(program[:4], ELDER_BLOCKS, inside)
            self.assertEqual(repr(program[4]), repr(tuple(rows)), inside)

    def test_books(self):
        for text, program in BOOKS:
            self.assertEqual(repr(shortened(compiled(read(text)))), repr(program), text)

    def test_each_writes_the_same(self):
        things = ("v", True, False, [], ["a"], ["a", "b", "c"], [["a"], []], [True, False], {"f": "v"}, {"f": {"g": "v"}}, 7)
        for inside, rows in ROWS:
            book = read(ELDERS + "{piece m(x)}" + inside + "{end}")
            for thing in things:
                outcome = written(book, {"x": thing})
                self.assertEqual(run(shortened(compiled(book)), 4, [thing]), outcome, (inside, thing))

    def test_programs_of_every_sort(self):
        fewer = 0
        for seed, book, values in good_books(500, 0.03):
            program = compiled(book)
            told = shortened(program)
            handed = [values[name] for name in book[-1][2]]
            main = len(book) - 1
            self.assertEqual(run(told, main, handed), written(book, values), seed)
            self.assertLessEqual(steps_of(told, main, handed), steps_of(program, main, handed), seed)
            self.assertEqual(len(told), len(program), seed)
            for block, longer in zip(told, program):
                self.assertIsInstance(block, tuple)
                self.assertLessEqual(len(block), len(longer), seed)
            fewer += steps_of(told, main, handed) < steps_of(program, main, handed)
        self.assertGreater(fewer, 50)

    def test_shortened_twice(self):
        for text in [text for text, program in BOOKS] + [ELDERS + "{piece m(x)}" + inside + "{end}" for inside, rows in ROWS]:
            once = shortened(compiled(read(text)))
            self.assertEqual(shortened(once), once, text)
        for seed, book, values in good_books(200):
            once = shortened(compiled(book))
            self.assertEqual(shortened(once), once, seed)

    def test_no_writes_are_left_side_by_side(self):
        for seed, book, values in good_books(300):
            for block in shortened(compiled(book)):
                targets = [place + 1 + row[-1] for place, row in enumerate(block) if row[0] in ("unless", "skip")]
                targets += [place + 1 + row[2] for place, row in enumerate(block) if row[0] == "round"]
                for place in range(1, len(block)):
                    if block[place][0] == block[place - 1][0] == "write":
                        self.assertIn(place, targets, seed)

    def test_blocks_in_any_order(self):
        # Main stands first here, and what it uses behind it.
        program = ((("write", "a"), ("use", 1, 0, None, 0), BACK), (("use", 2, 0, None, 0), ("write", "b"), BACK), (("write", "c"), BACK))
        self.assertEqual(shortened(program), ((("write", "acb"), BACK), (("write", "cb"), BACK), (("write", "c"), BACK)))

    def test_asked_again_the_same_is_told(self):
        for text, program in BOOKS:
            made = compiled(read(text))
            kept = copy.deepcopy(made)
            self.assertEqual(shortened(made), shortened(made))
            self.assertEqual(made, kept)


if __name__ == "__main__":
    unittest.main()

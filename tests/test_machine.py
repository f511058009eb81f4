import copy
import unittest

from formsmith.books import read
from formsmith.compiling import compiled
from formsmith.machine import Machine, run
from formsmith.writing import written
from makers import good_books

BACK = ("back",)


def machine_of(text, values):
    """A machine for a book's text, with main's values in their order."""
    book = read(text)
    return Machine(compiled(book), len(book) - 1, [values[name] for name in book[-1][2]])


def run_of(text, values):
    book = read(text)
    return run(compiled(book), len(book) - 1, [values[name] for name in book[-1][2]])


class StepTests(unittest.TestCase):

    def follow(self, machine, depths, outcome):
        """Does row by row: so many rows, with the depth behind each one."""
        for done, depth in enumerate(depths):
            self.assertIsNone(machine.outcome(), done)
            self.assertEqual(machine.steps(), done)
            self.assertIs(machine.step(), True, done)
            self.assertEqual(machine.depth(), depth, done)
        for _ in range(3):
            self.assertEqual(machine.outcome(), outcome)
            self.assertEqual(machine.steps(), len(depths))
            self.assertEqual(machine.depth(), depths[-1])
            self.assertIs(machine.step(), False)

    def test_a_block_with_nothing(self):
        machine = Machine(((BACK,),), 0, [])
        self.assertEqual((machine.depth(), machine.steps(), machine.outcome()), (1, 0, None))
        self.follow(machine, [0], ("written", ""))

    def test_places_and_fields(self):
        program = ((("write", "a"), ("load", 1), ("field", "f"), ("put", "word"), ("load", 0), ("put", "number"), BACK),)
        self.follow(Machine(program, 0, [7, {"f": "v"}]), [1] * 6 + [0], ("written", "av7"))

    def test_loops(self):
        program = ((("load", 0), ("walk",), ("round", 1, 3, ", "), ("load", 1), ("put", "plain"), ("again", 3), ("write", "."), BACK),)
        self.follow(Machine(program, 0, [[]]), [1] * 4 + [0], ("written", "."))
        self.follow(Machine(program, 0, [["a"]]), [1] * 8 + [0], ("written", "a."))
        self.follow(Machine(program, 0, [["a", "b", "c"]]), [1] * 16 + [0], ("written", "a, b, c."))

    def test_choices(self):
        program = ((("load", 0), ("unless", 2), ("write", "a"), ("skip", 1), ("write", "b"), ("write", "c"), BACK),)
        self.follow(Machine(program, 0, [True]), [1] * 5 + [0], ("written", "ac"))
        self.follow(Machine(program, 0, [False]), [1] * 4 + [0], ("written", "bc"))

    def test_uses_and_bodies(self):
        program = (
            (("load", 1), ("load", 0), ("body", 2), ("write", "."), BACK),
            (("load", 0), ("field", "f"), ("load", 1), ("use", 0, 2, 2, 2), BACK),
            (("load", 0), ("field", "g"), ("put", "plain"), ("load", 2), ("put", "plain"), ("load", 3), ("put", "plain"), BACK),
        )
        # The use begins the second frame, the body the third; each back ends one.
        depths = [1] * 3 + [2] * 3 + [3] * 8 + [2, 2, 1, 0]
        self.follow(Machine(program, 1, [{"f": "1", "g": "2"}, "3"]), depths, ("written", "231."))

    def test_another_block_to_begin_with(self):
        program = ((("load", 0), ("put", "plain"), BACK), (("load", 0), ("load", 1), ("use", 0, 1, None, 2), BACK))
        self.follow(Machine(program, 0, ["a"]), [1, 1, 0], ("written", "a"))
        self.follow(Machine(program, 1, ["a", "b"]), [1, 1, 2, 2, 2, 1, 0], ("written", "b"))

    def test_the_depth_at_a_refusal(self):
        program = (
            (("write", "("), ("load", 0), ("put", "number"), ("write", ")"), BACK),
            (("write", "["), ("load", 0), ("use", 0, 1, None, 1), ("write", "]"), BACK),
            (("load", 0), ("use", 1, 1, None, 1), BACK),
        )
        self.follow(Machine(program, 2, ["a"]), [1, 2, 2, 2, 3, 3, 3, 3], ("refused", "value", "[("))
        self.follow(Machine(program, 1, ["a"]), [1, 1, 2, 2, 2, 2], ("refused", "value", "[("))
        self.follow(Machine(program, 0, ["a"]), [1, 1, 1], ("refused", "value", "("))

    def test_the_five_words(self):
        rows = (
            ("a{x.no}", {}, 4, "field"), ("a{x}", 7, 3, "value"), ("a{for b in x}{end}", "v", 3, "list"), ("a{if x}{end}", 1, 3, "truth"),
            ("a{for b in x.no}{end}", {}, 4, "field"), ("a{if x.no}{end}", [], 4, "field"),
        )
        for inside, value, steps, word in rows:
            machine = machine_of("{piece m(x)}" + inside + "b{end}", {"x": value})
            self.follow(machine, [1] * steps, ("refused", word, "a"))
        self.assertEqual(run_of("{piece m(x)}{for a in x}{for b in x}.{end}{end}{end}", {"x": [0] * 40}), ("written", "." * 1600))
        text = "{piece m(x)}{for a in x}{for b in x}{b as number}{end}{end}{end}"
        self.assertEqual(run_of(text, {"x": [7] * 40}), ("refused", "long", "7" * 974))
        self.assertEqual(written(read(text), {"x": [7] * 40}), ("refused", "long", "7" * 974))

    def test_two_machines_side_by_side(self):
        program = compiled(read("{piece m(x)}{for a in x}{a}{between}, {end}{end}"))
        one, other = Machine(program, 0, [["a", "b"]]), Machine(program, 0, [["c", "d", "e"]])
        alone = Machine(program, 0, [["a", "b"]])
        while alone.step():
            pass
        going = True
        while going:
            going = one.step()
            going = other.step() or going
        self.assertEqual((one.outcome(), other.outcome()), (("written", "a, b"), ("written", "c, d, e")))
        self.assertEqual((one.steps(), alone.outcome()), (alone.steps(), one.outcome()))

    def test_what_was_handed_in_is_changed_later(self):
        program = compiled(read("{piece m(x, y)}{for a in x.l}{a.v}{y}{end}{end}"))
        for many in range(12):
            values = [{"l": [{"v": "1"}, {"v": "2"}]}, "t"]
            kept = copy.deepcopy(values)
            machine = Machine(program, 0, values)
            for _ in range(many):
                machine.step()
            self.assertEqual(values, kept)
            values[0]["l"][1]["v"] = "changed"
            values[0]["l"].append({"v": "3"})
            values[1] = "u"
            values.clear()
            while machine.step():
                pass
            self.assertEqual(machine.outcome(), ("written", "1t2t"))


class CountTests(unittest.TestCase):

    def test_just_2000_and_2001(self):
        # A loop and its rounds, each with a place.
        program = ((("load", 0), ("walk",), ("round", 1, 3, ","), ("load", 1), ("put", "number"), ("again", 3), BACK),)
        self.assertEqual(run(program, 0, [[7] * 999]), ("written", ",".join("7" * 999)))
        # The 1000th round is the 2000th that counts, its place the 2001st.
        self.assertEqual(run(program, 0, [[7] * 1000]), ("refused", "long", ",".join("7" * 999) + ","))
        rounds = ((("load", 0), ("walk",), ("round", 1, 2, ","), ("write", "."), ("again", 2), BACK),)
        self.assertEqual(run(rounds, 0, [[7] * 1999]), ("written", ",".join("." * 1999)))
        # The 2001st is a round: what stands between is not written.
        self.assertEqual(run(rounds, 0, [[7] * 2000]), ("refused", "long", ",".join("." * 1999)))

    def test_each_that_counts_at_2001(self):
        head = (("load", 0), ("walk",), ("round", 2, 1, ""), ("again", 1))
        last = {
            "put": (("load", 1), ("put", "plain")), "walk": (("load", 1), ("walk",), ("round", 2, 1, ""), ("again", 1)),
            "unless": (("load", 1), ("unless", 0)),
        }
        values = {"put": "v", "walk": [], "unless": True}
        for kind, rows in last.items():
            program = (head + rows + (BACK,),)
            written_text = "v" if kind == "put" else ""
            self.assertEqual(run(program, 0, [[0] * 1998, values[kind]]), ("written", written_text), kind)
            self.assertEqual(run(program, 0, [[0] * 1999, values[kind]]), ("refused", "long", ""), kind)

    def test_long_is_told_ahead_of_the_others(self):
        head = (("load", 0), ("walk",), ("round", 2, 1, ""), ("again", 1))
        rows = (
            ((("load", 1), ("field", "no"), ("put", "plain")), "field"), ((("load", 1), ("put", "number")), "value"),
            ((("load", 1), ("walk",)), "list"), ((("load", 1), ("unless", 0)), "truth"),
        )
        for last, word in rows:
            program = (head + last + (BACK,),)
            self.assertEqual(run(program, 0, [[0] * 1998, "v"]), ("refused", word, ""))
            self.assertEqual(run(program, 0, [[0] * 1999, "v"]), ("refused", "long", ""))


class RunTests(unittest.TestCase):

    def test_it_comes_to_the_outcome_of_written(self):
        refused = 0
        for seed, book, values in good_books(500, 0.04):
            outcome = written(book, values)
            refused += outcome[0] == "refused"
            before = copy.deepcopy(values)
            program = compiled(book)
            handed = [values[name] for name in book[-1][2]]
            self.assertEqual(run(program, len(book) - 1, handed), outcome, seed)
            self.assertEqual(run(program, len(book) - 1, handed), outcome, seed)
            self.assertEqual(repr(values), repr(before), seed)
        self.assertGreater(refused, 50)

    def test_names_mean_what_they_meant_at_the_use(self):
        text = (
            "{piece p(l) body 1}{for x in l}{body(x)}{end}{end}"
            "{piece q(l) body 2}{use p(l.a) with x}{for y in l.b}{body(x, y)}{end};{end}{end}"
            "{piece m(x, y)}{use q(x) with y, z}{y}{z}{x.c}{end}{y}{end}"
        )
        values = {"x": {"a": ["1", "2"], "b": ["3", "4"], "c": "-"}, "y": "!"}
        self.assertEqual(run_of(text, values), ("written", "13-14-;23-24-;!"))
        self.assertEqual(written(read(text), values), ("written", "13-14-;23-24-;!"))

    def test_what_is_not_wanted_is_not_looked_up(self):
        text = "{piece p(a, b)}{b}{end}{piece m(x)}{use p(x.no.no, x.y)}{end}"
        self.assertEqual(run_of(text, {"x": {"y": "v"}}), ("written", "v"))


if __name__ == "__main__":
    unittest.main()

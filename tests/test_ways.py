import copy
import unittest

from formsmith import ways
from formsmith.errors import BadValue, BadWay
from formsmith.signs import signs
from formsmith.ways import Line, Number, Plain, Quoted, Way, Word, way_of

FIGURES = "0123456789"
GREAT = "ABCDEFGHIJKLMNOPQRSTUVWXYZ"
SMALL = GREAT.lower()
WORDS = ("word", "number", "quoted", "plain", "line")
TEXT_WAYS = ("quoted", "plain", "line")
MOST = 10 ** 30 - 1
HUGE = 10 ** 3999


def nested(thing, many):
    for k in range(many):
        thing = [thing] if k % 2 else {"a": thing}
    return thing


NO_TEXTS = (None, 0, 7, -1, True, False, HUGE, [], ["a"], (), ("a",), {}, {"a": "a"}, 1.5, b"a", {"a"}, object(),
            nested([], 59), str, len)
NO_NUMBERS = (None, True, False, "", "1", "-1", [], [1], (), (1,), {}, {"a": 1}, 1.0, object(), nested([], 59), int,
              MOST + 1, -MOST - 1, HUGE, -HUGE)


def others(left_out):
    return "".join(sign for sign in signs() if sign not in left_out)


# What each way codes: texts alone, side by side, and at the edges.
CODED = {
    "word": {
        "a": "a", "Z": "Z", "0": "0", "007": "007", "aB9": "aB9", "x" * 40: "x" * 40, "end": "end",
        SMALL: SMALL, GREAT: GREAT, FIGURES: FIGURES,
    },
    "number": {
        0: "0", 1: "1", -1: "-1", 10: "10", -10: "-10", 42: "42", MOST: "9" * 30, -MOST: "-" + "9" * 30,
        10 ** 29: "1" + "0" * 29, -(10 ** 29): "-1" + "0" * 29,
    },
    "quoted": {
        "": '""', "a": '"a"', "^": '"^^"', '"': '"^q"', "\n": '"^n"', '^"\n': '"^^^q^n"', "^^": '"^^^^"',
        '""': '"^q^q"', "\n\n": '"^n^n"', "^q": '"^^q"', "^n": '"^^n"', "a^b\"c\nd": '"a^^b^qc^nd"',
        "~<>&|{}": '"~<>&|{}"', "x" * 400: '"' + "x" * 400 + '"', "^" * 400: '"' + "^" * 800 + '"',
    },
    "plain": {
        "": "", "a": "a", "~": "~~", "<": "~l", ">": "~g", "&": "~a", "|": "~b", "\n": "~n", "~<>&|\n": "~~~l~g~a~b~n",
        "~~": "~~~~", "~l": "~~l", "<<": "~l~l", "a<b>c": "a~lb~gc", '^"{}': '^"{}', " ": " ",
        "x" * 400: "x" * 400, "|" * 400: "~b" * 400,
    },
    "line": {
        "": "", "a": "a", "~": "~~", "\n": "~n", "~\n": "~~~n", "\n~": "~n~~", "~n": "~~n", "~~": "~~~~",
        "<>&|^\"{}": "<>&|^\"{}", "x" * 400: "x" * 400, "\n" * 400: "~n" * 400,
    },
}

# Texts at whose beginning nothing is read by the way.
UNREAD = {
    "word": ("", " ", "-", "\n", "~", "_a", " a", "x" * 41, "x" * 41 + " ", "x" * 4000, "\t", "\ta"),
    "number": (
        "", "-", "--1", "- 1", "+1", "a", " 1", "-a", "00", "01", "007", "-0", "-00", "-01", "9" * 31, "-" + "9" * 31,
        "0" * 31, "1" + "0" * 30, "9" * 3999, "-\n", "\n", "\t", "-\t",
    ),
    "quoted": (
        "", '"', '"a', "a", ' "a"', "'a'", 'a"', '"^"', '"^a"', '"^^^"', '"a^', '"^^^a"', '"\n"', '"a\nb"', '"^N"',
        '"^Q"', '"^~"', '"~n^"', '"' + "x" * 401 + '"', '"' + "^q" * 401 + '"', '"\t"', '"^\n"',
    ),
    "plain": (
        "~", "a~", "~~~", "~x", "~ ", "~N", "~^", "~q", "~<", "~\n", "~|", "a~|", "x" * 401, "x" * 401 + "<",
        "~l" * 401, "~~" * 401, "\t", "a\t", "~lx~",
    ),
    "line": (
        "~", "a~", "~~~", "~x", "~l", "~b", "~ ", "~\n", "a~\nb", "x" * 401, "x" * 401 + "\n", "~n" * 401, "\t",
        "a\t\n",
    ),
}


class FitsTests(unittest.TestCase):

    def check(self, word, thing, want):
        self.assertIs(way_of(word).fits(thing), want, (word, repr(thing)[:60]))

    def test_what_is_coded_fits(self):
        for word in WORDS:
            for value in CODED[word]:
                self.check(word, value, True)

    def test_words_of_one_to_forty_signs(self):
        for many in (1, 2, 39, 40):
            self.check("word", "x" * many, True)
        for many in (0, 41, 42, 400, 4000):
            self.check("word", "x" * many, False)

    def test_words_of_letters_and_figures_alone(self):
        for sign in signs() + "\t":
            want = sign in FIGURES + GREAT + SMALL
            for text in (sign, sign + "a", "a" + sign, "a" + sign + "a"):
                self.check("word", text, want)

    def test_texts_of_four_hundred_signs_and_one_more(self):
        for word in TEXT_WAYS:
            for many in (0, 1, 41, 399, 400):
                self.check(word, "x" * many, True)
                self.check(word, "\n" * many, True)
            for many in (401, 402, 4000):
                self.check(word, "x" * many, False)

    def test_texts_of_every_sign(self):
        for word in TEXT_WAYS:
            self.check(word, signs(), True)
            for text in ("\t", "\ta", "a\t", "a\tb", "x" * 399 + "\t"):
                self.check(word, text, False)

    def test_things_that_are_no_text(self):
        for word in WORDS:
            for thing in NO_TEXTS:
                want = word == "number" and type(thing) is int and abs(thing) <= MOST
                self.check(word, thing, want)

    def test_things_that_are_no_number(self):
        for thing in NO_NUMBERS:
            self.check("number", thing, False)
        for number in (0, 1, -1, MOST, -MOST):
            self.check("number", number, True)


class CodedTests(unittest.TestCase):

    def test_what_is_coded(self):
        for word in WORDS:
            for value, text in CODED[word].items():
                self.assertEqual(way_of(word).coded(value), text, word)

    def test_only_the_escapes_told(self):
        escapes = {"quoted": '^"\n', "plain": "~<>&|\n", "line": "~\n"}
        for word in TEXT_WAYS:
            for sign in others(escapes[word]):
                want = f'"{sign}"' if word == "quoted" else sign
                self.assertEqual(way_of(word).coded(sign), want)

    def test_what_does_not_fit_is_refused(self):
        for word in WORDS:
            things = NO_NUMBERS if word == "number" else NO_TEXTS + ("x" * 401, "\t", "a\tb")
            things = things + ("", "a b", "x" * 41, "-") if word == "word" else things
            for thing in things:
                with self.assertRaises(BadValue):
                    way_of(word).coded(thing)

    def test_what_is_handed_in_is_the_same_behind(self):
        for word in WORDS:
            for thing in ([1, {"a": ["x"]}], {"a": [None]}):
                before = copy.deepcopy(thing)
                way_of(word).fits(thing)
                with self.assertRaises(BadValue):
                    way_of(word).coded(thing)
                self.assertEqual(thing, before)


class ReadTests(unittest.TestCase):

    def check(self, word, text, at, want):
        told = way_of(word).read(text, at)
        self.assertEqual(told, want, (word, text[:80], at))
        if want is not None:
            self.assertIsInstance(told, tuple)
            self.assertIs(type(told[0]), int if word == "number" else str)

    def test_what_is_coded_is_read_again(self):
        aheads = ("", " ", "a", "7", "-", '"', "~", "^", "<", "\n", "some\ntext")
        for word in WORDS:
            for value, text in CODED[word].items():
                for ahead in aheads:
                    at, behind = len(ahead), len(ahead) + len(text)
                    self.check(word, ahead + text, at, (value, behind))

    def test_each_of_the_ends_may_stand_behind(self):
        for word in WORDS:
            for end in way_of(word).ends():
                for value, text in CODED[word].items():
                    for rest in ("", "a", "1~"):
                        self.check(word, "12" + text + end + rest, 2, (value, 2 + len(text)))

    def test_nothing_is_read(self):
        for word in WORDS:
            for text in UNREAD[word]:
                self.check(word, text, 0, None)
                self.check(word, "ab" + text, 2, None)

    def test_nothing_is_read_with_an_end_behind(self):
        for text in ("00", "01", "-0", "-", "9" * 31):
            for end in others(FIGURES):
                self.check("number", text + end, 0, None)
        for text in ("~", "a~", "~x", "x" * 401):
            for end in "<>&|\n":
                self.check("plain", text + end, 0, None)
            self.check("line", text + "\n", 0, None)
        for end in others(FIGURES + GREAT + SMALL):
            self.check("word", "x" * 41 + end, 0, None)

    def test_at_the_texts_end(self):
        for text in ("", "a", "12", '"a"'):
            for word in ("word", "number", "quoted"):
                self.check(word, text, len(text), None)
            for word in ("plain", "line"):
                self.check(word, text, len(text), ("", len(text)))

    def test_the_empty_text_ahead_of_an_end(self):
        for end in "<>&|\n":
            self.check("plain", "a" + end + "b", 1, ("", 1))
        self.check("line", "a\nb", 1, ("", 1))

    def test_the_stretch_is_all_that_the_way_looks_at(self):
        self.check("word", "ab12 cd", 0, ("ab12", 4))
        self.check("word", "ab12 cd", 1, ("b12", 4))
        self.check("number", "12a", 0, (12, 2))
        self.check("number", "12-3", 0, (12, 2))
        self.check("number", "12-3", 2, (-3, 4))
        self.check("number", "012", 1, (12, 3))
        self.check("quoted", '"a""b"', 0, ("a", 3))
        self.check("quoted", '"a"b"', 2, ("b", 5))
        self.check("plain", "ab<cd", 0, ("ab", 2))
        self.check("plain", "a~lb\nc", 0, ("a<b", 4))
        self.check("line", "a<b|c\nd", 0, ("a<b|c", 5))

    def test_what_was_read_is_coded_to_what_was_there(self):
        texts = ["".join((a, b, c)) for a in '~^"-0a\n<' for b in '~^"n01q<' for c in '~^"nl1 >']
        for word in WORDS:
            for text in texts:
                for at in range(4):
                    told = way_of(word).read(text, at)
                    if told is not None:
                        self.assertEqual(way_of(word).coded(told[0]), text[at:told[1]])

    def test_asked_again_the_same_is_told(self):
        for word in WORDS:
            way = way_of(word)
            for value, text in CODED[word].items():
                first = (way.fits(value), way.coded(value), way.read(text, 0), way.begins(), way.ends())
                again = (way.fits(value), way.coded(value), way.read(text, 0), way.begins(), way.ends())
                self.assertEqual(first, again)


class BeginsAndEndsTests(unittest.TestCase):

    def test_begins(self):
        self.assertEqual(Word().begins(), FIGURES + GREAT + SMALL)
        self.assertEqual(Number().begins(), "-" + FIGURES)
        self.assertEqual(Quoted().begins(), '"')
        self.assertEqual(Plain().begins(), others("<>&|\n"))
        self.assertEqual(Line().begins(), others("\n"))

    def test_ends(self):
        self.assertEqual(Word().ends(), others(FIGURES + GREAT + SMALL))
        self.assertEqual(Number().ends(), others(FIGURES))
        self.assertEqual(Quoted().ends(), signs())
        self.assertEqual(Plain().ends(), "\n&<>|")
        self.assertEqual(Line().ends(), "\n")

    def test_in_the_order_of_signs(self):
        for word in WORDS:
            for told in (way_of(word).begins(), way_of(word).ends()):
                self.assertEqual(told, "".join(sign for sign in signs() if sign in told))

    def test_is_void(self):
        for word in WORDS:
            self.assertIs(way_of(word).is_void(), word in ("plain", "line"), word)

    def test_what_is_coded_begins_as_told(self):
        for word in WORDS:
            for text in CODED[word].values():
                if text:
                    self.assertIn(text[0], way_of(word).begins())
                else:
                    self.assertTrue(way_of(word).is_void())


class WayOfTests(unittest.TestCase):

    def test_the_five_words(self):
        for word, kind in zip(WORDS, (Word, Number, Quoted, Plain, Line)):
            self.assertIs(type(way_of(word)), kind)
            self.assertEqual(kind.__bases__, (Way,))
            self.assertIs(type(kind()), kind)

    def test_nothing_else(self):
        near = ("", "Word", "words", "wor", " word", "word ", "plain\n", "LINE", "quote", "tree", "form", "way", "a\tb")
        for thing in near + NO_TEXTS + (("word",), ["word"], {"word": "word"}, b"word"):
            with self.assertRaises(BadWay):
                way_of(thing)

    def test_names_of_the_interface_are_there(self):
        for name in ("Way", "Word", "Number", "Quoted", "Plain", "Line", "way_of"):
            self.assertTrue(hasattr(ways, name), name)


if __name__ == "__main__":
    unittest.main()

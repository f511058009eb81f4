import copy
import unittest

from formsmith.signs import is_name, is_path, is_text, signs

COMMAND_WORDS = ("as", "between", "body", "else", "end", "for", "if", "in", "piece", "use", "with")
SMALL = "abcdefghijklmnopqrstuvwxyz"
NO_TEXTS = (None, 0, 7, -1, True, False, [], ["a"], (), ("a",), {}, {"a": "a"}, 1.5, b"a", {"a"}, object(), str)


def with_each_place(text, sign):
    """The text with the sign put in at each place, and in the place of each of its signs."""
    put_in = [text[:at] + sign + text[at:] for at in range(len(text) + 1)]
    changed = [text[:at] + sign + text[at + 1:] for at in range(len(text))]
    return put_in + changed


class SignsTests(unittest.TestCase):

    def test_just_the_signs_in_order(self):
        want = "\n" + "".join(chr(k) for k in range(ord(" "), ord("~") + 1) if chr(k) != chr(37))
        self.assertEqual(signs(), want)
        self.assertEqual(len(signs()), 95)

    def test_percent_sign_and_tab_are_none(self):
        self.assertNotIn(chr(37), signs())
        self.assertNotIn("\t", signs())

    def test_told_alike_each_time(self):
        self.assertEqual(signs(), signs())


class IsTextTests(unittest.TestCase):

    def test_empty_text(self):
        for most in (0, 1, 400):
            self.assertIs(is_text("", most), True)

    def test_just_as_many_and_one_more(self):
        for most in (0, 1, 2, 40, 400, 4000):
            self.assertIs(is_text("x" * most, most), True, most)
            self.assertIs(is_text("x" * (most + 1), most), False, most)

    def test_fewer_than_the_most(self):
        self.assertIs(is_text("ab", 400), True)

    def test_every_sign_makes_a_text(self):
        self.assertIs(is_text(signs(), 95), True)
        self.assertIs(is_text(signs(), 94), False)
        for sign in signs():
            self.assertIs(is_text(sign, 1), True, repr(sign))

    def test_tab_at_any_place(self):
        self.assertIs(is_text("\t", 1), False)
        for text in with_each_place("a line\nand one", "\t"):
            self.assertIs(is_text(text, 400), False, repr(text))

    def test_things_that_are_no_text(self):
        for thing in NO_TEXTS:
            self.assertIs(is_text(thing, 400), False, repr(thing))


class IsNameTests(unittest.TestCase):

    def test_one_to_eight_small_letters(self):
        for many in range(1, 9):
            self.assertIs(is_name("x" * many), True, many)
        for letter in SMALL:
            self.assertIs(is_name(letter), True, letter)
        self.assertIs(is_name("abcdefgh"), True)

    def test_none_and_nine_letters(self):
        self.assertIs(is_name(""), False)
        self.assertIs(is_name("x" * 9), False)
        self.assertIs(is_name("abcdefghi"), False)
        self.assertIs(is_name("x" * 400), False)

    def test_the_eleven_words(self):
        for word in COMMAND_WORDS:
            self.assertIs(is_name(word), False, word)

    def test_texts_near_the_words_are_names(self):
        near = ("a", "asx", "betwee", "bodys", "els", "ends", "fo", "iff", "inn", "pieces", "uses", "wit")
        for text in near + ("open", "text", "place", "word", "plain", "true", "none"):
            self.assertIs(is_name(text), True, text)

    def test_another_sign_at_any_place(self):
        for sign in signs() + "\t":
            if sign not in SMALL:
                for text in [sign] + with_each_place("name", sign):
                    self.assertIs(is_name(text), False, repr(text))

    def test_things_that_are_no_text(self):
        for thing in NO_TEXTS:
            self.assertIs(is_name(thing), False, repr(thing))


class IsPathTests(unittest.TestCase):

    def test_one_to_four_names(self):
        names = ("a", "abcdefgh", "a", "x")
        for many in range(1, 5):
            self.assertIs(is_path(names[:many]), True, many)

    def test_empty_and_too_long(self):
        self.assertIs(is_path(()), False)
        for many in (5, 6, 40):
            self.assertIs(is_path(("a",) * many), False, many)

    def test_no_name_at_any_place(self):
        bad = NO_TEXTS + COMMAND_WORDS + ("", "A", "a.b", "a b", "nineletts", "a\n", "v0")
        for thing in bad:
            for many in range(1, 5):
                for at in range(many):
                    path = ("a",) * at + (thing,) + ("a",) * (many - at - 1)
                    self.assertIs(is_path(path), False, repr(path))

    def test_things_that_are_no_tuple(self):
        for thing in (["a"], ["a", "b"], "a", "ab", "", "a.b", None, 0, 1, True, {"a": "b"}, {"a"}, []):
            self.assertIs(is_path(thing), False, repr(thing))

    def test_what_is_handed_in_is_the_same_behind(self):
        for thing in (["a", ["b"]], {"a": ["b"]}, (["a"], "b")):
            before = copy.deepcopy(thing)
            is_text(thing, 400)
            is_name(thing)
            is_path(thing)
            self.assertEqual(thing, before)


if __name__ == "__main__":
    unittest.main()

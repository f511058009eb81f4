"""The five ways in which a value is written, and read again."""

from formsmith.errors import BadValue, BadWay
from formsmith.signs import is_made_of, is_text, signs
from formsmith.values import MOST_SIGNS, is_short_number

FIGURES = "0123456789"
WORD_SIGNS = "0123456789ABCDEFGHIJKLMNOPQRSTUVWXYZabcdefghijklmnopqrstuvwxyz"
NUMBER_SIGNS = "-0123456789"
PLAIN_STOPS = "\n&<>|"
LINE_STOPS = "\n"

MOST_WORD_SIGNS = 40
MOST_NUMBER_SIGNS = 31

# Of each way with escapes: the signs that are escaped and, in the same
# order, the letter that stands for each behind the escape sign.
QUOTED_SIGNS = "^\"\n"
QUOTED_LETTERS = "^qn"
PLAIN_SIGNS = "~<>&|\n"
PLAIN_LETTERS = "~lgabn"
LINE_SIGNS = "~\n"
LINE_LETTERS = "~n"


class Way:

    def coded(self, value):
        if not self.fits(value):
            raise BadValue("the value does not fit the way")
        return self.spelling(value)

    def read(self, text, at):
        behind = self.stretch_end(text, at)
        stretch = text[at:behind]
        value = self.meaning(stretch)
        # Spelling it again finds each stretch to which no value is coded.
        if not self.fits(value) or self.spelling(value) != stretch:
            return None
        return (value, behind)

    def is_void(self):
        return False


class Word(Way):

    def fits(self, value):
        return is_text(value, MOST_WORD_SIGNS) and value != "" and is_made_of(value, WORD_SIGNS)

    def spelling(self, value):
        return value

    def stretch_end(self, text, at):
        return end_of_run(text, at, WORD_SIGNS)

    def meaning(self, stretch):
        return stretch

    def begins(self):
        return WORD_SIGNS

    def ends(self):
        return signs_but(WORD_SIGNS)


class Number(Way):

    def fits(self, value):
        # Python counts truths among the whole numbers; here they are none.
        return isinstance(value, int) and not isinstance(value, bool) and is_short_number(value)

    def spelling(self, value):
        return str(value)

    def stretch_end(self, text, at):
        if text.startswith("-", at):
            return end_of_run(text, at + 1, FIGURES)
        return end_of_run(text, at, FIGURES)

    def meaning(self, stretch):
        # Python reads no number of many thousand figures, so the length is asked first.
        if stretch in ("", "-") or len(stretch) > MOST_NUMBER_SIGNS:
            return None
        return int(stretch)

    def begins(self):
        return NUMBER_SIGNS

    def ends(self):
        return signs_but(FIGURES)


class Quoted(Way):

    def fits(self, value):
        return is_text(value, MOST_SIGNS)

    def spelling(self, value):
        return "\"" + escaped(value, "^", QUOTED_SIGNS, QUOTED_LETTERS) + "\""

    def stretch_end(self, text, at):
        closing = text.find("\"", at + 1)
        if not text.startswith("\"", at) or closing < 0:
            return at
        return closing + 1

    def meaning(self, stretch):
        return unescaped(stretch[1:-1], "^", QUOTED_SIGNS, QUOTED_LETTERS)

    def begins(self):
        return "\""

    def ends(self):
        return signs()


class Plain(Way):

    def fits(self, value):
        return is_text(value, MOST_SIGNS)

    def spelling(self, value):
        return escaped(value, "~", PLAIN_SIGNS, PLAIN_LETTERS)

    def stretch_end(self, text, at):
        return end_before(text, at, PLAIN_STOPS)

    def meaning(self, stretch):
        return unescaped(stretch, "~", PLAIN_SIGNS, PLAIN_LETTERS)

    def begins(self):
        return signs_but(PLAIN_STOPS)

    def ends(self):
        return PLAIN_STOPS

    def is_void(self):
        return True


class Line(Way):

    def fits(self, value):
        return is_text(value, MOST_SIGNS)

    def spelling(self, value):
        return escaped(value, "~", LINE_SIGNS, LINE_LETTERS)

    def stretch_end(self, text, at):
        return end_before(text, at, LINE_STOPS)

    def meaning(self, stretch):
        return unescaped(stretch, "~", LINE_SIGNS, LINE_LETTERS)

    def begins(self):
        return signs_but(LINE_STOPS)

    def ends(self):
        return LINE_STOPS

    def is_void(self):
        return True


def way_of(word):
    if word == "word":
        return Word()
    if word == "number":
        return Number()
    if word == "quoted":
        return Quoted()
    if word == "plain":
        return Plain()
    if word == "line":
        return Line()
    raise BadWay("there is no such way")


def signs_but(left_out):
    return "".join([sign for sign in signs() if sign not in left_out])


def end_of_run(text, at, allowed):
    while at < len(text) and text[at] in allowed:
        at = at + 1
    return at


def end_before(text, at, stops):
    while at < len(text) and text[at] not in stops:
        at = at + 1
    return at


def escaped(text, mark, raw, letters):
    parts = []
    for sign in text:
        place = raw.find(sign)
        parts.append(sign if place < 0 else mark + letters[place])
    return "".join(parts)


def unescaped(text, mark, raw, letters):
    # None tells that an escape is none, since the empty text is a meaning too.
    parts = []
    at = 0
    while at < len(text):
        if text[at] == mark:
            at = at + 1
            place = letters.find(text[at]) if at < len(text) else -1
            if place < 0:
                return None
            parts.append(raw[place])
        else:
            parts.append(text[at])
        at = at + 1
    return "".join(parts)

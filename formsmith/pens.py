"""The pen, which all who write share: what it wrote, what it counted, and why it refuses.

A reference is a tuple of a thing and, behind it, the fields that lead on from
it. It is looked up only where the thing is wanted.
"""

from formsmith.values import found
from formsmith.ways import way_of

MOST_COUNTED = 2000


class Refused(Exception):

    def __init__(self, word):
        self.word = word


class Pen:

    def __init__(self):
        self.parts = []
        self.counted = 0

    def write(self, text):
        self.parts.append(text)

    def count_one(self):
        self.counted = self.counted + 1
        if self.counted > MOST_COUNTED:
            raise Refused("long")

    def begin_round(self, number, between):
        self.count_one()
        if number > 0:
            self.write(between)

    def thing_wanted(self, reference):
        self.count_one()
        things = found(reference[0], reference[1:])
        if not things:
            raise Refused("field")
        return things[0]

    def put(self, reference, word):
        value = self.thing_wanted(reference)
        way = way_of(word)
        if not way.fits(value):
            raise Refused("value")
        self.write(way.coded(value))
        return value

    def list_wanted(self, reference):
        things = self.thing_wanted(reference)
        if not isinstance(things, list):
            raise Refused("list")
        return things

    def truth_wanted(self, reference):
        truth = self.thing_wanted(reference)
        if not isinstance(truth, bool):
            raise Refused("truth")
        return truth

    def outcome_written(self):
        return ("written", "".join(self.parts))

    def outcome_refused(self, word):
        return ("refused", word, "".join(self.parts))


def references_to(values):
    references = {}
    for name in values:
        references[name] = (values[name],)
    return references

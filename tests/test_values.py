import copy
import unittest

from formsmith.errors import BadValues
from formsmith.values import is_value, looked_up, need_values

COMMAND_WORDS = ("as", "between", "body", "else", "end", "for", "if", "in", "piece", "use", "with")
NO_VALUES = (None, (), ("a",), (1, 2), 1.5, 2j, b"a", {"a"}, frozenset(), object(), str, len, range(3))
WRONG_TEXTS = ("\t", "a\tb", "x" * 401)
WRONG_NUMBERS = (10 ** 30, -(10 ** 30), 10 ** 3999, -(10 ** 3999))
WRONG_LEAVES = NO_VALUES + WRONG_TEXTS + WRONG_NUMBERS
NO_FIELDS = ("", "A", "a.b", "a b", "a1", "nineletts", "a\n") + COMMAND_WORDS
NO_TEXT_FIELDS = (None, 0, 1, True, ("a",), 10 ** 3999)
FIELDS = ("a", "b", "c", "d", "e", "f", "g", "h", "i")


def in_lists(thing, many):
    for _ in range(many):
        thing = [thing]
    return thing


def in_records(thing, many):
    for _ in range(many):
        thing = {"a": thing}
    return thing


def in_both(thing, many):
    for k in range(many):
        thing = [thing] if k % 2 else {"a": thing}
    return thing


WRAPS = (in_lists, in_records, in_both)


def holders(thing):
    """Things that are values but for this one within them, put at any place."""
    yield [thing]
    for at in range(40):
        yield ["x"] * at + [thing] + ["x"] * (39 - at)
    for at in range(8):
        yield {field: (thing if k == at else 1) for k, field in enumerate(FIELDS[:8])}
    for wrap in WRAPS:
        for many in range(1, 6):
            yield wrap(thing, many)
    yield ["x", {"a": 1, "b": [True, [], {"c": thing}]}, "y"]


class IsValueTests(unittest.TestCase):

    def test_texts(self):
        for text in ("", "a", "Ab 1\n~{}", "x" * 400, "\n" * 400):
            self.assertIs(is_value(text), True)
        for text in WRONG_TEXTS:
            self.assertIs(is_value(text), False)

    def test_numbers_of_thirty_figures_and_one_more(self):
        for number in (0, 1, -1, 42, 10 ** 29, 10 ** 30 - 1, -(10 ** 29), -(10 ** 30) + 1):
            self.assertIs(is_value(number), True, number)
        for number in WRONG_NUMBERS:
            self.assertIs(is_value(number), False)

    def test_truths(self):
        self.assertIs(is_value(True), True)
        self.assertIs(is_value(False), True)

    def test_lists_of_forty_and_one_more(self):
        for many in (0, 1, 2, 39, 40):
            self.assertIs(is_value(["x"] * many), True, many)
        for many in (41, 42, 400):
            self.assertIs(is_value(["x"] * many), False, many)

    def test_lists_of_unlike_things(self):
        self.assertIs(is_value(["", 0, True, [], {}, [1], {"a": "b"}]), True)

    def test_records_of_eight_and_one_more(self):
        for many in range(9):
            self.assertIs(is_value({field: 1 for field in FIELDS[:many]}), True, many)
        self.assertIs(is_value({field: 1 for field in FIELDS}), False)

    def test_fields_that_are_names(self):
        for field in ("a", "z", "abcdefgh", "asx", "open"):
            self.assertIs(is_value({field: 1}), True, field)

    def test_fields_that_are_no_names(self):
        for field in NO_FIELDS + NO_TEXT_FIELDS:
            self.assertIs(is_value({field: 1}), False, repr(field)[:40])
            self.assertIs(is_value({"a": 1, field: 1}), False, repr(field)[:40])
            self.assertIs(is_value({field: 1, "a": 1}), False, repr(field)[:40])
            self.assertIs(is_value([{"a": [{field: 1}]}]), False, repr(field)[:40])

    def test_six_deep_and_seven_deep(self):
        for wrap in WRAPS:
            for leaf in ("x", "", 7, 0, True, False, [], {}):
                self.assertIs(is_value(wrap(leaf, 5)), True, (wrap, leaf))
                self.assertIs(is_value(wrap(leaf, 6)), False, (wrap, leaf))

    def test_the_deepest_counts_wherever_it_stands(self):
        for wrap in WRAPS:
            self.assertIs(is_value([1, wrap(1, 4), 1]), True)
            self.assertIs(is_value([1, wrap(1, 5), 1]), False)
            self.assertIs(is_value({"a": 1, "b": wrap(1, 5), "c": 1}), False)

    def test_sixty_deep(self):
        for wrap in WRAPS:
            self.assertIs(is_value(wrap([], 59)), False)

    def test_other_kinds_at_the_top(self):
        for thing in NO_VALUES:
            self.assertIs(is_value(thing), False, repr(thing))

    def test_wrong_things_at_any_place_within(self):
        for whole in holders("x"):
            self.assertIs(is_value(whole), True, whole)
        for thing in WRONG_LEAVES:
            for whole in holders(thing):
                self.assertIs(is_value(whole), False)

    def test_full_lists_and_records_within(self):
        full = {field: ["x" * 400] * 40 for field in FIELDS[:8]}
        self.assertIs(is_value([full] * 40), True)
        for wrong in ([1] * 41, {field: 1 for field in FIELDS}):
            for whole in ([wrong], {"a": wrong}, [[1, {"b": wrong}]]):
                self.assertIs(is_value(whole), False)

    def test_what_is_handed_in_is_the_same_behind(self):
        for thing in ([1, {"a": ["x"]}], {"b": [], "a": {"c": True}}, [None, {"A": 1}]):
            before = copy.deepcopy(thing)
            is_value(thing)
            self.assertEqual(repr(thing), repr(before))


class LookedUpTests(unittest.TestCase):

    VALUE = {"a": {"b": {"c": {"d": "deep"}, "n": 0}, "e": ""}, "t": False, "l": [{"a": 1}], "r": {}}

    def test_no_fields(self):
        for value in ("", "x", 0, 7, True, False, [], [1, "a"], {}, self.VALUE):
            self.check(looked_up(value, ()), (value,))

    def test_fields_that_lead_through_records(self):
        for fields, want in (
            (("a", "b", "c", "d"), "deep"), (("a", "b", "c"), {"d": "deep"}), (("a", "b", "n"), 0),
            (("a", "e"), ""), (("t",), False), (("l",), [{"a": 1}]), (("r",), {}),
        ):
            self.check(looked_up(self.VALUE, fields), (want,))

    def test_truths_and_numbers_stay_apart(self):
        self.assertIs(looked_up({"a": True}, ("a",))[0], True)
        self.assertIs(looked_up({"a": [False]}, ("a",))[0][0], False)
        self.assertIsInstance(looked_up({"a": 1}, ("a",))[0], int)
        self.assertNotIsInstance(looked_up({"a": 1}, ("a",))[0], bool)

    def test_many_fields(self):
        self.check(looked_up(in_records("x", 12), ("a",) * 12), ("x",))
        self.check(looked_up(in_records("x", 12), ("a",) * 13), ())

    def test_records_without_the_field(self):
        for fields in (("z",), ("b",), ("a", "z"), ("a", "a"), ("r", "a"), ("a", "b", "c", "z"), ("z", "z", "z")):
            self.check(looked_up(self.VALUE, fields), ())

    def test_something_on_the_way_is_no_record(self):
        for fields in (("t", "a"), ("l", "a"), ("a", "e", "a"), ("a", "b", "n", "a"), ("a", "b", "c", "d", "e")):
            self.check(looked_up(self.VALUE, fields), ())

    def test_no_record_at_the_beginning(self):
        for value in ("", "a", "abc", 0, 7, True, False, [], ["a"], [{"a": 1}], [["a", 1]]):
            self.check(looked_up(value, ("a",)), ())

    def test_what_is_handed_in_is_the_same_behind(self):
        before = copy.deepcopy(self.VALUE)
        for fields in ((), ("a",), ("a", "z"), ("l",), ("t", "a")):
            looked_up(self.VALUE, fields)
            self.assertEqual(repr(self.VALUE), repr(before))

    def test_what_is_told_is_the_askers_own(self):
        value = {"a": {"b": [1, {"c": [2]}]}}
        told = looked_up(value, ("a",))
        value["a"]["b"][1]["c"].append(3)
        value["a"]["b"].append(4)
        value["a"]["d"] = 5
        self.assertEqual(told, ({"b": [1, {"c": [2]}]},))
        told[0]["b"].clear()
        self.assertEqual(value, {"a": {"b": [1, {"c": [2, 3]}, 4], "d": 5}})

    def check(self, told, want):
        self.assertIsInstance(told, tuple)
        self.assertEqual(repr(told), repr(want))


class NeedValuesTests(unittest.TestCase):

    GOOD = {"a": "x", "b": -5, "c": [True, {"d": "y"}], "d": {}}
    NAMES = ("a", "b", "c", "d")

    def refuses(self, names, values):
        with self.assertRaises(BadValues):
            need_values(names, values)

    def test_values_for_just_the_names(self):
        self.assertIsNone(need_values((), {}))
        self.assertIsNone(need_values(("a",), {"a": ""}))
        self.assertIsNone(need_values(self.NAMES, self.GOOD))

    def test_names_in_any_order(self):
        self.assertIsNone(need_values(self.NAMES[::-1], self.GOOD))
        self.assertIsNone(need_values(("c", "a", "d", "b"), self.GOOD))
        self.assertIsNone(need_values(self.NAMES, dict(reversed(list(self.GOOD.items())))))

    def test_each_value_may_be_six_deep(self):
        for wrap in WRAPS:
            self.assertIsNone(need_values(("a", "b"), {"a": wrap(1, 5), "b": wrap([], 5)}))
            self.refuses(("a", "b"), {"a": wrap(1, 5), "b": wrap(1, 6)})

    def test_more_names_than_a_record_has(self):
        self.assertIsNone(need_values(FIELDS, {field: 1 for field in FIELDS}))

    def test_a_name_more(self):
        self.refuses((), {"a": 1})
        self.refuses(self.NAMES, dict(self.GOOD, e=1))
        for key in NO_FIELDS + NO_TEXT_FIELDS:
            more = dict(self.GOOD)
            more[key] = 1
            self.refuses(self.NAMES, more)

    def test_a_name_fewer(self):
        self.refuses(("a",), {})
        for name in self.NAMES:
            fewer = dict(self.GOOD)
            fewer.pop(name)
            self.refuses(self.NAMES, fewer)

    def test_as_many_but_another_name(self):
        self.refuses(("a",), {"b": 1})
        self.refuses(("a", "b"), {"a": 1, "c": 1})
        self.refuses(("a",), {True: 1})

    def test_no_value_at_any_place(self):
        for thing in WRONG_LEAVES + (in_lists([], 59), in_records({}, 59), [1] * 41):
            for name in self.NAMES:
                wrong = dict(self.GOOD)
                wrong[name] = thing
                self.refuses(self.NAMES, wrong)

    def test_no_value_at_any_place_within(self):
        for thing in WRONG_LEAVES:
            for whole in holders(thing):
                self.refuses(("a", "b"), {"a": 1, "b": whole})
                self.refuses(("a", "b"), {"a": whole, "b": 1})

    def test_what_is_no_dict(self):
        for thing in NO_VALUES + ([], ["a"], [("a", 1)], "", "a", 0, 10 ** 3999, True, False, in_lists([], 59)):
            self.refuses((), thing)
            self.refuses(("a",), thing)

    def test_what_is_handed_in_is_the_same_behind(self):
        names = ("a", "b")
        for values in ({"b": [1, {"a": "x"}], "a": True}, {"a": [None]}, {"a": 1, "b": {"A": []}, "c": 2}):
            before = copy.deepcopy(values)
            try:
                need_values(names, values)
            except BadValues:
                pass
            self.assertEqual(repr(values), repr(before))
            self.assertEqual(names, ("a", "b"))


if __name__ == "__main__":
    unittest.main()

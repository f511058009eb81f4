import unittest

from formsmith import errors

PLACED = ("BadText", "BadName", "Unclear", "NoFill")
UNPLACED = ("BadWay", "BadValue", "BadValues", "TooMany", "Clash")
ALL = PLACED + UNPLACED


def made(name):
    kind = getattr(errors, name)
    return kind(7) if name in PLACED else kind("words")


class ErrorTests(unittest.TestCase):

    def test_form_error_stands_straight_under_value_error(self):
        self.assertEqual(errors.FormError.__bases__, (ValueError,))

    def test_each_stands_straight_under_form_error(self):
        for name in ALL:
            self.assertEqual(getattr(errors, name).__bases__, (errors.FormError,), name)

    def test_each_is_taken_as_form_error_and_value_error(self):
        for name in ALL:
            for base in (errors.FormError, ValueError):
                with self.assertRaises(base):
                    raise made(name)

    def test_none_is_another_ones(self):
        for name in ALL:
            for other in ALL:
                is_one = isinstance(made(name), getattr(errors, other))
                self.assertEqual(is_one, name == other, (name, other))

    def test_places_are_kept(self):
        for name in PLACED:
            for at in (None, 0, 4000, (), (2,), (0, 1, 1, 3)):
                self.assertEqual(getattr(errors, name)(at).at, at, name)

    def test_places_are_each_objects_own(self):
        for name in PLACED:
            first, second = getattr(errors, name)(1), getattr(errors, name)(2)
            self.assertEqual((first.at, second.at), (1, 2))

    def test_placed_ones_are_made_with_one_thing(self):
        for name in PLACED:
            for things in ((), (1, 2)):
                with self.assertRaises(TypeError):
                    getattr(errors, name)(*things)

    def test_the_others_have_no_place(self):
        for name in UNPLACED:
            self.assertFalse(hasattr(made(name), "at"), name)


if __name__ == "__main__":
    unittest.main()

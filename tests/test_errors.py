"""The interface of everymatch/errors.py."""

import unittest

from everymatch import errors

NAMES = ("BadDocument", "BadNode", "BadPlace", "BadText", "BadEdit", "BadPairs", "BadSaying", "BadNodes",
         "BadNames", "BadMachine", "BadLaying", "BadMachines", "BadName", "TooMany", "BadSayings", "BadShape",
         "BadCount", "BadBalance", "BadNumber", "BadEdition", "BadIndex")


class ErrorsTest(unittest.TestCase):
    def test_match_error_is_a_value_error(self):
        self.assertEqual(errors.MatchError.__bases__, (ValueError,))
        with self.assertRaises(ValueError):
            raise errors.MatchError("words")

    def test_each_stands_directly_under_match_error(self):
        self.assertEqual(len(set(NAMES)), 21)
        for name in NAMES:
            self.assertEqual(getattr(errors, name).__bases__, (errors.MatchError,), name)

    def test_no_other_errors(self):
        told = [name for name, thing in vars(errors).items() if isinstance(thing, type)]
        self.assertEqual(sorted(told), sorted(NAMES + ("MatchError",)))

    def test_those_without_fields_take_one_text(self):
        for name in NAMES:
            if name != "BadText":
                error = getattr(errors, name)("some words")
                self.assertEqual(str(error), "some words")
                self.assertEqual(vars(error), {})

    def test_bad_text_has_its_place(self):
        self.assertEqual(errors.BadText(7).place, 7)
        self.assertEqual(errors.BadText(place=0).place, 0)
        with self.assertRaises(errors.MatchError) as caught:
            raise errors.BadText(3)
        self.assertEqual(vars(caught.exception), {"place": 3})
        with self.assertRaises(TypeError):
            errors.BadText()


if __name__ == "__main__":
    unittest.main()

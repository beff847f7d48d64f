"""The errors [0.2]: their classes, and what they keep."""

import unittest

from sumstand import errors
from tests.helpers import Case

NAMES = """
    BadShape BadCell BadStory Clash TwoWorlds BadRow BadShelf NotLost BadAddress BadOrder NotSound Loop
    NoThing NotFolder There BadPath BadRange BadWords BadSize BadName BadLimit TooMany TooLong OverLimit
    NoRoom NotFile Top NotEmpty Within HasSnapshot NoSnapshot NotSignpost BadText TooManyLost Torn Unlike
    NotBlank NotSo BadNumber BadGround Spoilt Unwhole BadWrite BadCode BadStop BadCells BadColumn New NoNew
    NotStanding OnlyOne NotKept NoSum TooFew
""".split()

KEPT = (0, -1, 7, 10**999, True, False, None, "", "/a/b", (), (1, 2), ((0,), (((1,),), "x")))


class Errors(Case):
    def test_there_are_as_many_as_listed(self):
        self.assertEqual(len(set(NAMES)), 54)

    def test_each_is_defined_here(self):
        for name in ["Refused", *NAMES]:
            with self.subTest(name=name):
                self.assertEqual(getattr(errors, name).__module__, "sumstand.errors")
                self.assertEqual(getattr(errors, name).__name__, name)

    def test_refused_stands_under_value_error(self):
        self.assertTrue(issubclass(errors.Refused, ValueError))

    def test_all_stand_under_refused(self):
        for name in NAMES:
            with self.subTest(name=name):
                self.assertTrue(issubclass(getattr(errors, name), errors.Refused))
                self.assertIsNot(getattr(errors, name), errors.Refused)

    def test_none_stands_under_another_one(self):
        for name in NAMES:
            for other in NAMES:
                if name != other:
                    self.assertFalse(issubclass(getattr(errors, name), getattr(errors, other)), (name, other))

    def test_each_keeps_its_argument(self):
        for name in ["Refused", *NAMES]:
            for what in KEPT:
                with self.subTest(name=name, what=what):
                    made = getattr(errors, name)
                    self.assertIs(made(what).what, what)
                    self.assertIs(made(what=what).what, what)

    def test_each_is_made_from_one_argument(self):
        for name in ["Refused", *NAMES]:
            with self.subTest(name=name):
                with self.assertRaises(TypeError):
                    getattr(errors, name)()
                with self.assertRaises(TypeError):
                    getattr(errors, name)(1, 2)

    def test_each_is_caught_as_refused_and_as_value_error(self):
        for name in NAMES:
            for above in (getattr(errors, name), errors.Refused, ValueError):
                with self.subTest(name=name, above=above):
                    with self.assertRaises(above) as caught:
                        raise getattr(errors, name)((1, "a"))
                    self.assertEqual(caught.exception.what, (1, "a"))


if __name__ == "__main__":
    unittest.main()

import unittest

from raisedsums import errors

NAMES = ["NoProduct", "NoPart", "NoRow", "NoExchange", "TooMany", "Unlike", "NoPaper",
         "NoText", "NoLetters", "NoLine", "NoName", "Full", "NoDeed"]
WITH_AT = ["NoProduct", "NoRow", "NoPaper"]


class Classes(unittest.TestCase):
    def test_raised_error_stands_under_value_error(self):
        self.assertEqual(errors.RaisedError.__bases__, (ValueError,))

    def test_each_stands_straight_under_raised_error(self):
        for name in NAMES:
            self.assertEqual(getattr(errors, name).__bases__, (errors.RaisedError,), name)

    def test_none_stands_under_another_one(self):
        for one in NAMES:
            for other in NAMES:
                if one != other:
                    self.assertFalse(issubclass(getattr(errors, one), getattr(errors, other)), (one, other))

    def test_there_are_thirteen(self):
        self.assertEqual(len(errors.RaisedError.__subclasses__()), 13)

    def test_at_is_set_when_made(self):
        for name in WITH_AT:
            one = getattr(errors, name)(3)
            other = getattr(errors, name)(0)
            self.assertEqual((one.at, other.at), (3, 0), name)
            self.assertIn("3", str(one))

    def test_the_others_have_words_of_their_own(self):
        for name in NAMES:
            if name not in WITH_AT:
                self.assertEqual(str(getattr(errors, name)("so")), "so")


if __name__ == "__main__":
    unittest.main()

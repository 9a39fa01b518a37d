import unittest

from slipseen import errors

NAMES = ("NoScheme", "OtherBase", "NoRoom", "NoKind", "NoFigure", "NoNote")


class Classes(unittest.TestCase):
    def test_slip_error_stands_under_value_error(self):
        self.assertEqual(errors.SlipError.__bases__, (ValueError,))

    def test_each_stands_straight_under_slip_error(self):
        for name in NAMES:
            with self.subTest(name):
                self.assertEqual(getattr(errors, name).__bases__, (errors.SlipError,))

    def test_none_is_another_one(self):
        for name in NAMES:
            for other in NAMES:
                if name != other:
                    with self.subTest(name=name, other=other):
                        self.assertFalse(issubclass(getattr(errors, name), getattr(errors, other)))

    def test_each_can_be_raised_with_words(self):
        for name in NAMES:
            with self.subTest(name), self.assertRaises(getattr(errors, name)):
                raise getattr(errors, name)("words")


if __name__ == "__main__":
    unittest.main()

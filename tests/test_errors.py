import unittest

from netloft import errors
from netloft.errors import BadText, NetError, NoMirror, NoPlace, NoTurn, Unfit, Unsound

REFUSALS = [BadText, Unfit, NoMirror, NoPlace, NoTurn, Unsound]


class ErrorsTest(unittest.TestCase):
    def test_net_error_stands_under_value_error(self):
        self.assertEqual(NetError.__bases__, (ValueError,))

    def test_each_refusal_stands_under_net_error_alone(self):
        for refusal in REFUSALS:
            with self.subTest(refusal.__name__):
                self.assertEqual(refusal.__bases__, (NetError,))
                self.assertTrue(issubclass(refusal, ValueError))

    def test_no_refusal_stands_under_another(self):
        for one in REFUSALS:
            for other in REFUSALS:
                with self.subTest(one=one.__name__, other=other.__name__):
                    self.assertEqual(issubclass(one, other), one.__name__ == other.__name__)

    def test_names_are_their_own(self):
        names = ["BadText", "Unfit", "NoMirror", "NoPlace", "NoTurn", "Unsound"]
        self.assertEqual([refusal.__name__ for refusal in REFUSALS], names)
        for name in names:
            self.assertEqual(getattr(errors, name).__module__, "netloft.errors")

    def test_refusals_are_raised_with_words(self):
        for refusal in REFUSALS:
            with self.subTest(refusal.__name__), self.assertRaises(refusal):
                raise refusal("some words")

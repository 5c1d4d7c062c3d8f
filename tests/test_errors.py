import unittest

from netloft import errors
from netloft.drawing import drawn
from netloft.errors import BadText, NetError, NoMirror, NoPlace, NoTurn, Unfit, Unsound
from netloft.joining import joined
from netloft.nets import Net
from netloft.texts import read
from netloft.turns import tied, turns_of
from netloft.ways import way
from samples import RefusalCase, cords, dark, light

REFUSALS = [BadText, Unfit, NoMirror, NoPlace, NoTurn, Unsound]


class ErrorsTest(unittest.TestCase):
    def test_net_error_stands_under_value_error(self):
        self.assertEqual(NetError.__bases__, (ValueError,))

    def test_each_refusal_stands_under_net_error_alone(self):
        for refusal in REFUSALS:
            with self.subTest(refusal.__name__):
                self.assertEqual(refusal.__bases__, (NetError,))
                self.assertTrue(issubclass(refusal, ValueError))

    def test_no_refusal_stands_under_another(self):
        for one in REFUSALS:
            for other in REFUSALS:
                with self.subTest(one=one.__name__, other=other.__name__):
                    self.assertEqual(issubclass(one, other), one.__name__ == other.__name__)

    def test_names_are_their_own(self):
        names = ["BadText", "Unfit", "NoMirror", "NoPlace", "NoTurn", "Unsound"]
        self.assertEqual([refusal.__name__ for refusal in REFUSALS], names)
        for name in names:
            self.assertEqual(getattr(errors, name).__module__, "netloft.errors")

    def test_refusals_are_raised_with_words(self):
        for refusal in REFUSALS:
            with self.subTest(refusal.__name__), self.assertRaises(refusal):
                raise refusal("some words")


ONE = Net(cords("a", [1]))
OTHER = Net(cords("a", [2]))
TIPS_OF_TWO_DYES = [("cord", "a", 1), ("cord", "b", 2), ("splice", 0, 1)]
CALLS = [
    (BadText, read, "a.1, a'1 "),
    (BadText, read, "A.1"),
    (Unfit, read, "a.1"),
    (Unfit, Net, [light("a", 1)]),
    (Unfit, Net, [], [(light("a", 1), dark("b", 2))]),
    (Unfit, joined, ONE, 0, ONE, 1),
    (NoMirror, read, "a'1, b.2 | a.1 = b'2"),
    (NoMirror, Net, [dark("a", 1), light("b", 2)], [(light("a", 1), dark("b", 2))]),
    (NoMirror, tied, TIPS_OF_TWO_DYES),
    (NoMirror, joined, ONE, 0, OTHER, 0),
    (NoPlace, drawn, ONE, 0),
    (NoPlace, way, ONE, light("a", 2)),
    (NoPlace, joined, ONE, 2, OTHER, 0),
    (NoPlace, joined, ONE, 0, OTHER, -1),
    (NoTurn, tied, []),
    (NoTurn, tied, [("loose", 0, 1)]),
    (NoTurn, tied, [("cord", "a", 1), ("cord", "a", 1), ("splice", 0, 1)]),
    (Unsound, turns_of, Net([])),
    (Unsound, turns_of, Net(cords("a", [1]), None, 1)),
]


class RefusingCallsTest(RefusalCase):
    def test_each_call_refuses_with_a_class_of_its_own(self):
        for error, call, *given in CALLS:
            with self.subTest(call=call.__name__, error=error.__name__):
                self.assert_refused(error, call, *given)

    def test_each_refusal_is_there(self):
        self.assertEqual({call[0] for call in CALLS}, set(REFUSALS))

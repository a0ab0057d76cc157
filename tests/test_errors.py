import unittest

from meetvalue.errors import MeetError, NoRow, NoText, Ring

REFUSALS = (NoText, Ring, NoRow)


class Errors(unittest.TestCase):
    def test_any_refusal_is_a_value_error(self):
        self.assertTrue(issubclass(MeetError, ValueError))

    def test_each_refusal_is_a_meet_error(self):
        for refusal in REFUSALS:
            with self.subTest(refusal=refusal):
                self.assertTrue(issubclass(refusal, MeetError))
                with self.assertRaises(MeetError):
                    raise refusal("words")

    def test_no_refusal_stands_under_another(self):
        for one in REFUSALS:
            self.assertIsNot(one, MeetError)
            for other in REFUSALS:
                if one is not other:
                    with self.subTest(one=one, other=other):
                        self.assertFalse(issubclass(one, other))

    def test_their_names(self):
        self.assertEqual([c.__name__ for c in REFUSALS + (MeetError,)], ["NoText", "Ring", "NoRow", "MeetError"])


if __name__ == "__main__":
    unittest.main()

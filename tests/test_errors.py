import unittest

from loanroll import errors

WORDED = ["NoDay", "NoCount", "NoTerms", "TooMany", "NoDays", "NoFlow",
          "Back", "NoNumber", "NoText", "NoRow", "NoLoan"]
ALL = WORDED + ["BadEntry"]


class Classes(unittest.TestCase):
    def test_loan_error_stands_right_under_value_error(self):
        self.assertEqual(errors.LoanError.__bases__, (ValueError,))

    def test_each_stands_right_under_loan_error(self):
        for name in ALL:
            with self.subTest(name=name):
                self.assertEqual(getattr(errors, name).__bases__, (errors.LoanError,))

    def test_none_stands_under_another_one(self):
        for one in ALL:
            for other in ALL:
                with self.subTest(one=one, other=other):
                    under = issubclass(getattr(errors, one), getattr(errors, other))
                    self.assertEqual(under, one == other)

    def test_each_bears_its_own_name(self):
        for name in ALL + ["LoanError"]:
            self.assertEqual(getattr(errors, name).__name__, name)


class Made(unittest.TestCase):
    def test_with_a_text(self):
        for name in WORDED + ["LoanError"]:
            for text in ("", "free words"):
                with self.subTest(name=name, text=text):
                    with self.assertRaises(ValueError) as caught:
                        raise getattr(errors, name)(text)
                    self.assertIs(type(caught.exception), getattr(errors, name))
                    self.assertEqual(str(caught.exception), text)

    def test_bad_entry_with_its_place(self):
        for place in (0, 1, 2, 10 ** 60):
            with self.subTest(place=place):
                with self.assertRaises(errors.LoanError) as caught:
                    raise errors.BadEntry(place)
                self.assertIs(type(caught.exception), errors.BadEntry)
                self.assertEqual(caught.exception.place, place)
                self.assertIs(type(caught.exception.place), int)

    def test_bad_entry_keeps_its_own_place(self):
        made = [errors.BadEntry(place) for place in (2, 0, 1, 2)]
        self.assertEqual([refusal.place for refusal in made], [2, 0, 1, 2])


if __name__ == "__main__":
    unittest.main()

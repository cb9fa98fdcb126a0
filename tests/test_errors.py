"""The interface's errors: what each of them is, and what it is not."""

import unittest

from loanplan.errors import BadAmount, BadDay, BadPay, BadRate, LoanError, NoNote

KINDS = [BadAmount, BadRate, BadDay, BadPay, NoNote]


class ErrorsTest(unittest.TestCase):
    def test_each_is_a_loan_error_and_a_value_error(self):
        for kind in KINDS:
            with self.subTest(kind=kind.__name__):
                self.assertTrue(issubclass(kind, LoanError))
                self.assertTrue(issubclass(kind, ValueError))

    def test_loan_error_is_a_value_error_and_no_one_kind(self):
        self.assertTrue(issubclass(LoanError, ValueError))
        for kind in KINDS:
            with self.subTest(kind=kind.__name__):
                self.assertFalse(issubclass(LoanError, kind))

    def test_none_is_one_of_the_other_four(self):
        for kind in KINDS:
            for other in KINDS:
                with self.subTest(kind=kind.__name__, other=other.__name__):
                    self.assertEqual(issubclass(kind, other), kind is other)

    def test_each_is_raised_and_caught_by_its_own_name(self):
        for kind in [LoanError] + KINDS:
            with self.subTest(kind=kind.__name__):
                with self.assertRaises(kind) as told:
                    raise kind("why")
                self.assertIs(type(told.exception), kind)

    def test_each_is_caught_as_a_loan_error(self):
        for kind in KINDS:
            with self.subTest(kind=kind.__name__):
                with self.assertRaises(LoanError):
                    raise kind("why")


if __name__ == "__main__":
    unittest.main()

"""Names, arguments and homes of what the interface lists."""

import inspect
import unittest

from loanplan import desk, errors, loans, notes, plans, rates


def arguments(function):
    return list(inspect.signature(function).parameters)


class InterfaceTest(unittest.TestCase):
    def test_errors_are_defined_in_their_file(self):
        for name in ["LoanError", "BadAmount", "BadRate", "BadDay", "BadPay", "NoNote"]:
            with self.subTest(name=name):
                self.assertEqual(getattr(errors, name).__module__, "loanplan.errors")

    def functions(self, home, listed):
        for name, told in listed.items():
            with self.subTest(name=name):
                function = getattr(home, name)
                self.assertTrue(inspect.isfunction(function))
                self.assertEqual(function.__module__, home.__name__)
                self.assertEqual(arguments(function), told)

    def test_functions_of_rates(self):
        listed = {"checked": ["rates"], "rate_on": ["rates", "day"], "grown": ["rates", "start", "end"]}
        self.functions(rates, listed)

    def test_functions_of_plans(self):
        listed = {"plan": ["loan", "days", "part"], "least_part": ["loan", "days"], "cost": ["loan", "days", "part"]}
        self.functions(plans, listed)
        self.functions(plans, {"saved": ["loan", "days", "part", "day", "cents"]})

    def test_functions_of_notes_and_desk(self):
        self.functions(notes, {"read": ["line"], "shown": ["note"]})
        self.functions(desk, {"desk": ["amount", "rate", "lines"]})

    def test_the_class_loan(self):
        self.assertTrue(inspect.isclass(loans.Loan))
        self.assertEqual(loans.Loan.__module__, "loanplan.loans")
        self.assertEqual(arguments(loans.Loan), ["amount", "rates"])

    def test_each_method_stands_in_the_class_itself(self):
        listed = {"stand": ["day"], "owed": ["day"], "pay": ["day", "cents"], "change": ["day", "rate"], "twin": []}
        for name, told in listed.items():
            with self.subTest(name=name):
                self.assertIn(name, vars(loans.Loan))
                self.assertEqual(arguments(getattr(loans.Loan, name))[1:], told)

    def test_each_field_is_set_on_a_new_loan(self):
        made = loans.Loan(5, [(0, 1)])
        for loan in [made, made.twin()]:
            for name in ["left", "begun", "day", "rates"]:
                with self.subTest(name=name):
                    self.assertTrue(hasattr(loan, name))

    def test_whole_numbers_are_whole_numbers(self):
        loan = loans.Loan(5, [(0, 1)])
        told = [loan.left, loan.begun, loan.day, loan.owed(3), rates.rate_on([(0, 1)], 3), rates.grown([(0, 1)], 0, 3)]
        told += [*loan.stand(3), *loan.pay(3, 1), loan.left, loan.begun, loan.day]
        for number in told:
            self.assertIs(type(number), int)


if __name__ == "__main__":
    unittest.main()

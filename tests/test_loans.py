"""Points 1, 2 and 6 to 9: how a loan stands, what is owed, payments, changes."""

import unittest

from loanplan.errors import BadAmount, BadDay, BadPay, BadRate, LoanError
from loanplan.loans import Loan

# Numbers of 41 figures, the most that point 2 allows.
HUGE = [10 ** 40, 10 ** 41 - 1]
LOW = [-most for most in HUGE]


def state(loan):
    return loan.left, loan.begun, loan.day, list(loan.rates)


class LoanCase(unittest.TestCase):
    def refused(self, kind, deed, *given):
        with self.assertRaises(LoanError) as told:
            deed(*given)
        self.assertIs(type(told.exception), kind, given)

    def refused_unchanged(self, kind, loan, deed, *given):
        before = state(loan)
        self.refused(kind, deed, *given)
        self.assertEqual(state(loan), before)


class NewLoanTest(LoanCase):
    def test_a_new_loan(self):
        self.assertEqual(state(Loan(50000, [(0, 120), (30, 90)])), (50000, 0, 0, [(0, 120), (30, 90)]))

    def test_bounds_of_amounts(self):
        for amount in [1, 2, 10 ** 12 - 1, 10 ** 12]:
            self.assertEqual(Loan(amount, [(0, 5)]).left, amount)
        for amount in [0, -1, 10 ** 12 + 1, -10 ** 12] + HUGE + LOW:
            self.refused(BadAmount, Loan, amount, [(0, 5)])

    def test_rates_are_refused_as_by_checked(self):
        self.refused(BadDay, Loan, 5, [])
        for day in [1, -1, 100001] + HUGE + LOW:
            self.refused(BadDay, Loan, 5, [(day, 5)])
        for day in [0, 4, 3, -1, 100001] + HUGE:
            self.refused(BadDay, Loan, 5, [(0, 5), (4, 5), (day, 5)])
        for rate in [-1, 100001] + HUGE + LOW:
            self.refused(BadRate, Loan, 5, [(0, rate)])
        self.refused(BadDay, Loan, 5, [(1, -1)])
        self.refused(BadRate, Loan, 5, [(0, -1), (0, 5)])

    def test_the_amount_ahead_of_the_rates(self):
        for amount in [0, 10 ** 12 + 1]:
            for rates in [[], [(1, 5)], [(0, -1)]]:
                self.refused(BadAmount, Loan, amount, rates)

    def test_a_refused_row_stays_as_it_was(self):
        rates = [(0, 5), (4, 100001)]
        self.refused(BadRate, Loan, 5, rates)
        self.refused(BadAmount, Loan, 0, rates)
        self.assertEqual(rates, [(0, 5), (4, 100001)])


class StandTest(LoanCase):
    def test_begun_grows_by_left_times_the_rate_of_each_day(self):
        loan = Loan(1000, [(0, 120)])
        self.assertEqual(loan.stand(0), (1000, 0))
        self.assertEqual(loan.stand(1), (1000, 120000))
        self.assertEqual(loan.stand(30), (1000, 3600000))

    def test_over_a_change_of_the_rates(self):
        loan = Loan(1000, [(0, 1), (10, 7), (11, 50)])
        told = {9: 9, 10: 16, 11: 66, 12: 116}
        for day, brought in told.items():
            self.assertEqual(loan.stand(day), (1000, 1000 * brought))

    def test_the_rate_of_the_day_that_is_come_to(self):
        loan = Loan(1000, [(0, 900), (1, 7)])
        self.assertEqual(loan.stand(1), (1000, 7000))

    def test_begun_interest_brings_no_interest(self):
        loan = Loan(1000, [(0, 100000)])
        self.assertEqual(loan.stand(1000), (1000, 1000 * 100000 * 1000))
        loan.pay(1000, 1)
        self.assertEqual(loan.stand(1001), (1000, 1000 * 100000 * 1001 - 1000000))

    def test_begun_grows_on_what_is_left(self):
        loan = Loan(1000, [(0, 1000)])
        self.assertEqual(loan.pay(10, 510), (10, 500))
        self.assertEqual(loan.stand(10), (500, 0))
        self.assertEqual(loan.stand(14), (500, 2000000))

    def test_a_begun_part_goes_on_from_day_to_day(self):
        loan = Loan(7, [(0, 100)])
        loan.pay(3, 1)
        self.assertEqual(state(loan), (6, 2100, 3, [(0, 100)]))
        self.assertEqual(loan.stand(5), (6, 3300))

    def test_the_largest_loan(self):
        loan = Loan(10 ** 12, [(0, 100000)])
        self.assertEqual(loan.stand(100000), (10 ** 12, 10 ** 22))
        self.assertEqual(loan.owed(100000), 10 ** 12 + 10 ** 16)

    def test_bounds_of_days(self):
        loan = Loan(1000, [(0, 1)])
        for day in [-1, -2, 100001] + HUGE + LOW:
            self.refused_unchanged(BadDay, loan, loan.stand, day)
        loan.pay(40, 5)
        self.assertEqual(loan.stand(40), (995, 40000))
        self.assertEqual(loan.stand(100000), (995, 40000 + 995 * 99960))
        for day in [39, 0, -1, 100001]:
            self.refused_unchanged(BadDay, loan, loan.stand, day)

    def test_asking_leaves_the_loan_where_it_is(self):
        loan = Loan(1000, [(0, 120), (4, 7)])
        loan.pay(2, 3)
        before = state(loan)
        for day in [2, 3, 9, 100000, 2]:
            loan.stand(day)
            self.assertEqual(state(loan), before)
            loan.owed(day)
            self.assertEqual(state(loan), before)

    def test_what_was_told_stays(self):
        loan = Loan(1000, [(0, 1000)])
        stood = loan.stand(10)
        paid = loan.pay(10, 510)
        loan.change(11, 5)
        loan.pay(20, 100)
        self.assertEqual(stood, (1000, 10000000))
        self.assertEqual(paid, (10, 500))
        self.assertIs(type(stood), tuple)
        self.assertIs(type(paid), tuple)


class OwedTest(LoanCase):
    def test_a_begun_cent_counts_whole(self):
        loan = Loan(1000, [(0, 1)])
        told = {0: 1000, 1: 1001, 999: 1001, 1000: 1001, 1001: 1002, 2000: 1002, 2001: 1003}
        for day, cents in told.items():
            self.assertEqual(loan.owed(day), cents, day)

    def test_one_millionth_is_a_begun_cent(self):
        loan = Loan(1, [(0, 1)])
        self.assertEqual(loan.owed(0), 1)
        self.assertEqual(loan.owed(1), 2)
        self.assertEqual(Loan(1, [(0, 0)]).owed(100000), 1)

    def test_one_short_of_and_one_over_a_whole_cent(self):
        self.assertEqual(Loan(999999, [(0, 1)]).owed(1), 1000000)
        self.assertEqual(Loan(1000000, [(0, 1)]).owed(1), 1000001)
        self.assertEqual(Loan(1000001, [(0, 1)]).owed(1), 1000003)

    def test_bounds_of_days(self):
        loan = Loan(1000, [(0, 1)])
        self.assertEqual(loan.owed(100000), 1100)
        for day in [-1, 100001] + HUGE + LOW:
            self.refused_unchanged(BadDay, loan, loan.owed, day)
        loan.pay(40, 5)
        self.assertEqual(loan.owed(40), 996)
        self.assertEqual(loan.owed(41), 996)
        for day in [39, 0, -1, 100001]:
            self.refused_unchanged(BadDay, loan, loan.owed, day)
        loan.pay(100000, 1)
        self.assertEqual(loan.owed(100000), 995 + 99)
        self.refused_unchanged(BadDay, loan, loan.owed, 99999)
        self.refused_unchanged(BadDay, loan, loan.owed, 100001)

    def test_the_loans_own_day_with_begun_interest(self):
        loan = Loan(1000, [(0, 1)])
        loan.pay(1500, 1)
        self.assertEqual(loan.stand(1500), (1000, 500000))
        self.assertEqual(loan.owed(1500), 1001)


class PayTest(LoanCase):
    def loan(self):
        """Owes 1004 on day 3: 1000 are left, 3500000 millionths of a cent begun."""
        return Loan(1000, [(0, 1000), (3, 1500)])

    def paid(self, cents, interest, off, left, begun):
        loan = self.loan()
        self.assertEqual(loan.pay(3, cents), (interest, off))
        self.assertEqual(state(loan), (left, begun, 3, [(0, 1000), (3, 1500)]))
        self.assertEqual(interest + off, cents)

    def test_what_is_owed(self):
        self.assertEqual(self.loan().stand(3), (1000, 3500000))
        self.assertEqual(self.loan().owed(3), 1004)

    def test_one_cent(self):
        self.paid(1, 1, 0, 1000, 2500000)

    def test_one_cent_less_than_the_whole_cents_of_what_is_begun(self):
        self.paid(2, 2, 0, 1000, 1500000)

    def test_exactly_the_whole_cents_of_what_is_begun(self):
        self.paid(3, 3, 0, 1000, 500000)

    def test_one_cent_more_than_these(self):
        self.paid(4, 3, 1, 999, 500000)

    def test_an_ordinary_payment(self):
        self.paid(500, 3, 497, 503, 500000)

    def test_all_but_two_and_all_but_one_cent(self):
        self.paid(1002, 3, 999, 1, 500000)
        self.paid(1003, 3, 1000, 0, 500000)

    def test_all_that_is_owed(self):
        self.paid(1004, 4, 1000, 0, 0)

    def test_one_cent_more_than_is_owed(self):
        loan = self.loan()
        for cents in [1005, 1006, 10 ** 12, 10 ** 12 + 1] + HUGE:
            self.refused_unchanged(BadPay, loan, loan.pay, 3, cents)
        self.assertEqual(loan.pay(3, 1004), (4, 1000))

    def test_no_cents_and_less(self):
        loan = self.loan()
        for cents in [0, -1, -1004] + LOW:
            self.refused_unchanged(BadPay, loan, loan.pay, 3, cents)

    def test_where_no_cent_is_only_begun(self):
        loan = Loan(1000, [(0, 1000)])
        self.assertEqual(loan.owed(3), 1003)
        self.refused_unchanged(BadPay, loan, loan.pay, 3, 1004)
        twin = loan.twin()
        self.assertEqual(loan.pay(3, 1003), (3, 1000))
        self.assertEqual(state(loan), (0, 0, 3, [(0, 1000)]))
        self.assertEqual(twin.pay(3, 1002), (3, 999))
        self.assertEqual(state(twin), (1, 0, 3, [(0, 1000)]))

    def test_where_nothing_is_begun(self):
        loan = Loan(1000, [(0, 1000)])
        self.assertEqual(loan.pay(0, 400), (0, 400))
        self.assertEqual(state(loan), (600, 0, 0, [(0, 1000)]))
        self.assertEqual(loan.pay(0, 600), (0, 600))
        self.assertEqual(state(loan), (0, 0, 0, [(0, 1000)]))

    def test_a_cent_that_is_only_begun_stays_begun(self):
        loan = Loan(1000, [(0, 1)])
        self.assertEqual(loan.pay(999, 1), (0, 1))
        self.assertEqual(state(loan), (999, 999000, 999, [(0, 1)]))
        self.assertEqual(loan.pay(1000, 1), (0, 1))
        self.assertEqual(state(loan), (998, 999999, 1000, [(0, 1)]))
        self.assertEqual(loan.pay(1001, 1), (1, 0))
        self.assertEqual(state(loan), (998, 997, 1001, [(0, 1)]))

    def test_nothing_left_and_a_cent_begun(self):
        loan = self.loan()
        loan.pay(3, 1003)
        self.assertEqual(loan.owed(3), 1)
        self.assertEqual(loan.stand(100000), (0, 500000))
        self.assertEqual(loan.owed(100000), 1)
        self.refused_unchanged(BadPay, loan, loan.pay, 9, 2)
        self.assertEqual(loan.pay(9, 1), (1, 0))
        self.assertEqual(state(loan), (0, 0, 9, [(0, 1000), (3, 1500)]))

    def test_a_loan_that_is_paid_back(self):
        loan = self.loan()
        loan.pay(3, 1004)
        self.assertEqual(loan.owed(3), 0)
        self.assertEqual(loan.owed(100000), 0)
        self.assertEqual(loan.stand(100000), (0, 0))
        for cents in [-1, 0, 1, 2, 1004]:
            self.refused_unchanged(BadPay, loan, loan.pay, 3, cents)
            self.refused_unchanged(BadPay, loan, loan.pay, 50, cents)
        self.refused_unchanged(BadDay, loan, loan.pay, 2, 1)

    def test_the_days_go_by_up_to_the_payment(self):
        loan = self.loan()
        loan.pay(2, 1)
        self.assertEqual(state(loan), (1000, 1000000, 2, [(0, 1000), (3, 1500)]))
        loan.pay(2, 11)
        self.assertEqual(state(loan), (990, 0, 2, [(0, 1000), (3, 1500)]))
        loan.pay(4, 1)
        self.assertEqual(state(loan), (990, 2 * 990 * 1500 - 1000000, 4, [(0, 1000), (3, 1500)]))

    def test_bounds_of_days(self):
        loan = self.loan()
        for day in [-1, 100001] + HUGE + LOW:
            self.refused_unchanged(BadDay, loan, loan.pay, day, 1)
        loan.pay(7, 1)
        for day in [6, 0, -1, 100001]:
            self.refused_unchanged(BadDay, loan, loan.pay, day, 1)
        self.assertEqual(loan.pay(7, 1), (1, 0))
        self.assertEqual(loan.pay(100000, 1), (1, 0))
        self.assertEqual(loan.day, 100000)
        self.assertEqual(loan.pay(100000, 1), (1, 0))
        self.refused_unchanged(BadDay, loan, loan.pay, 99999, 1)
        self.refused_unchanged(BadDay, loan, loan.pay, 100001, 1)

    def test_the_day_ahead_of_the_cents(self):
        loan = self.loan()
        loan.pay(7, 1)
        for day in [6, -1, 100001]:
            for cents in [0, -1, 10 ** 12]:
                self.refused_unchanged(BadDay, loan, loan.pay, day, cents)

    def test_what_is_owed_on_the_day_of_the_payment_counts(self):
        loan = Loan(1000, [(0, 100000)])
        self.refused_unchanged(BadPay, loan, loan.pay, 0, 1001)
        self.refused_unchanged(BadPay, loan, loan.pay, 1, 1101)
        self.assertEqual(loan.pay(2, 1200), (200, 1000))

    def test_more_interest_than_amount(self):
        loan = Loan(10, [(0, 100000)])
        self.assertEqual(loan.pay(1000, 900), (900, 0))
        self.assertEqual(state(loan), (10, 100000000, 1000, [(0, 100000)]))
        self.assertEqual(loan.pay(1000, 105), (100, 5))

    def test_the_largest_payment(self):
        loan = Loan(10 ** 12, [(0, 100000)])
        self.assertEqual(loan.pay(100000, 10 ** 12 + 10 ** 16), (10 ** 16, 10 ** 12))


class ChangeTest(LoanCase):
    def test_a_change_stands_at_the_end_of_the_row(self):
        loan = Loan(1000, [(0, 1)])
        self.assertIsNone(loan.change(10, 7))
        self.assertIsNone(loan.change(11, 50))
        self.assertEqual(state(loan), (1000, 0, 0, [(0, 1), (10, 7), (11, 50)]))
        self.assertEqual(loan.stand(9), (1000, 9000))
        self.assertEqual(loan.stand(10), (1000, 16000))
        self.assertEqual(loan.stand(12), (1000, 116000))

    def test_around_the_day_of_the_last_pair(self):
        loan = Loan(1000, [(0, 1), (40, 2)])
        for day in [40, 39, 1, 0, -1]:
            self.refused_unchanged(BadDay, loan, loan.change, day, 5)
        loan.change(41, 5)
        self.assertEqual(loan.rates, [(0, 1), (40, 2), (41, 5)])
        self.refused_unchanged(BadDay, loan, loan.change, 41, 5)

    def test_around_the_loans_own_day(self):
        loan = Loan(1000, [(0, 1), (10, 2)])
        loan.pay(40, 1)
        for day in [40, 39, 11, 10, 0, -1]:
            self.refused_unchanged(BadDay, loan, loan.change, day, 5)
        loan.change(41, 5)
        self.assertEqual(state(loan), (999, 71000, 40, [(0, 1), (10, 2), (41, 5)]))
        self.assertEqual(loan.stand(42), (999, 71000 + 2 * 999 * 5))

    def test_the_first_days(self):
        loan = Loan(1000, [(0, 1)])
        self.refused_unchanged(BadDay, loan, loan.change, 0, 5)
        loan.change(1, 5)
        self.assertEqual(loan.rates, [(0, 1), (1, 5)])
        self.assertEqual(loan.stand(1), (1000, 5000))

    def test_the_last_days(self):
        loan = Loan(1000, [(0, 1)])
        for day in [100001] + HUGE + LOW:
            self.refused_unchanged(BadDay, loan, loan.change, day, 5)
        loan.change(100000, 5)
        self.assertEqual(loan.rates, [(0, 1), (100000, 5)])
        self.assertEqual(loan.stand(100000), (1000, 99999000 + 5000))
        self.refused_unchanged(BadDay, loan, loan.change, 100000, 5)
        self.refused_unchanged(BadDay, loan, loan.change, 100001, 5)

    def test_a_loan_on_the_last_day(self):
        loan = Loan(1000, [(0, 1)])
        loan.pay(100000, 1)
        for day in [99999, 100000, 100001]:
            self.refused_unchanged(BadDay, loan, loan.change, day, 5)

    def test_bounds_of_rates(self):
        loan = Loan(1000, [(0, 1)])
        for rate in [-1, 100001] + HUGE + LOW:
            self.refused_unchanged(BadRate, loan, loan.change, 5, rate)
        loan.change(5, 0)
        loan.change(6, 100000)
        self.assertEqual(loan.rates, [(0, 1), (5, 0), (6, 100000)])

    def test_the_day_ahead_of_the_rate(self):
        loan = Loan(1000, [(0, 1), (10, 2)])
        for day in [10, 0, -1, 100001]:
            for rate in [-1, 100001]:
                self.refused_unchanged(BadDay, loan, loan.change, day, rate)

    def test_a_change_of_a_loan_that_is_paid_back(self):
        loan = Loan(1000, [(0, 1)])
        loan.pay(0, 1000)
        loan.change(1, 9)
        self.assertEqual(state(loan), (0, 0, 0, [(0, 1), (1, 9)]))

    def test_60_rates(self):
        loan = Loan(1000, [(0, 0)])
        for day in range(1, 60):
            loan.change(day, day)
        self.assertEqual(loan.rates, [(day, day) for day in range(60)])
        self.assertEqual(loan.stand(60), (1000, 1000 * (sum(range(60)) + 59)))
        twin = loan.twin()
        self.assertEqual(state(twin), state(loan))


class OwnRowTest(LoanCase):
    def test_the_row_that_is_handed_in_stays_as_it_was(self):
        rates = [(0, 1), (10, 2)]
        loan = Loan(1000, rates)
        loan.stand(20)
        loan.owed(20)
        loan.pay(5, 1)
        loan.change(20, 3)
        loan.twin().change(21, 4)
        self.assertEqual(rates, [(0, 1), (10, 2)])

    def test_the_list_that_was_handed_in_is_changed_behind(self):
        rates = [(0, 1), (10, 2)]
        loan = Loan(1000, rates)
        rates.append((11, 100000))
        rates[0] = (0, 500)
        self.assertEqual(loan.rates, [(0, 1), (10, 2)])
        self.assertEqual(loan.stand(12), (1000, 15000))
        rates.clear()
        self.assertEqual(loan.stand(12), (1000, 15000))
        loan.change(11, 7)
        self.assertEqual(loan.rates, [(0, 1), (10, 2), (11, 7)])

    def test_two_loans_of_one_list(self):
        rates = [(0, 1)]
        one = Loan(1000, rates)
        two = Loan(1000, rates)
        one.change(10, 7)
        two.change(5, 9)
        self.assertEqual(one.rates, [(0, 1), (10, 7)])
        self.assertEqual(two.rates, [(0, 1), (5, 9)])
        self.assertEqual(one.stand(10), (1000, 16000))
        self.assertEqual(two.stand(10), (1000, 58000))

    def test_a_loan_of_another_ones_row(self):
        one = Loan(1000, [(0, 1)])
        two = Loan(500, one.rates)
        one.change(10, 7)
        self.assertEqual(two.rates, [(0, 1)])
        two.change(4, 2)
        self.assertEqual(one.rates, [(0, 1), (10, 7)])


class TwinTest(LoanCase):
    def test_a_twin_is_as_its_loan(self):
        loan = Loan(1000, [(0, 1000), (3, 1500)])
        self.assertEqual(state(loan.twin()), state(loan))
        loan.pay(3, 500)
        loan.change(9, 2)
        twin = loan.twin()
        self.assertIsInstance(twin, Loan)
        self.assertIsNot(twin, loan)
        self.assertEqual(state(twin), (503, 500000, 3, [(0, 1000), (3, 1500), (9, 2)]))
        self.assertEqual(twin.stand(10), loan.stand(10))
        self.assertEqual(twin.owed(10), loan.owed(10))

    def test_each_is_changed_by_itself(self):
        loan = Loan(1000, [(0, 1)])
        twin = loan.twin()
        loan.change(10, 7)
        self.assertEqual(twin.rates, [(0, 1)])
        twin.change(5, 9)
        self.assertEqual(loan.rates, [(0, 1), (10, 7)])
        self.assertEqual(twin.rates, [(0, 1), (5, 9)])

    def test_each_is_paid_by_itself(self):
        loan = Loan(1000, [(0, 1000)])
        twin = loan.twin()
        loan.pay(3, 503)
        self.assertEqual(state(twin), (1000, 0, 0, [(0, 1000)]))
        twin.pay(2, 102)
        self.assertEqual(state(loan), (500, 0, 3, [(0, 1000)]))
        self.assertEqual(state(twin), (900, 0, 2, [(0, 1000)]))

    def test_a_twin_of_a_loan_that_is_paid_back(self):
        loan = Loan(1000, [(0, 1000)])
        loan.pay(3, 1003)
        twin = loan.twin()
        self.assertEqual(state(twin), (0, 0, 3, [(0, 1000)]))
        self.refused_unchanged(BadDay, twin, twin.owed, 2)

    def test_a_twin_of_a_loan_with_only_a_begun_cent(self):
        loan = Loan(1000, [(0, 1)])
        loan.pay(1, 1000)
        twin = loan.twin()
        self.assertEqual(state(twin), (0, 1000, 1, [(0, 1)]))
        self.assertEqual(twin.pay(1, 1), (1, 0))
        self.assertEqual(state(loan), (0, 1000, 1, [(0, 1)]))

    def test_a_twin_of_a_twin_on_the_last_day(self):
        loan = Loan(10 ** 12, [(0, 100000)])
        loan.pay(100000, 1)
        twin = loan.twin().twin()
        self.assertEqual(state(twin), (10 ** 12, 10 ** 22 - 10 ** 6, 100000, [(0, 100000)]))


if __name__ == "__main__":
    unittest.main()

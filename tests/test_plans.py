"""Points 1, 2 and 10 to 14: plans, the least part, the cost, what an early payment saves."""

import unittest

from loanplan.errors import BadDay, BadPay, LoanError
from loanplan.loans import Loan
from loanplan.plans import cost, least_part, plan, saved

# Numbers of 41 figures, the most that point 2 allows.
HUGE = [10 ** 40, 10 ** 41 - 1]
LOW = [-most for most in HUGE]


def state(loan):
    return loan.left, loan.begun, loan.day, list(loan.rates)


def thousand():
    """Owes 1004 on day 3: 1000 are left, 3500000 millionths of a cent begun."""
    return Loan(1000, [(0, 1000), (3, 1500)])


class PlanCase(unittest.TestCase):
    def told(self, deed, loan, days, *given):
        """What is told; the loan and the due days stay as they were."""
        before = state(loan), list(days)
        try:
            return deed(loan, days, *given)
        finally:
            self.assertEqual((state(loan), days), before, given)

    def refused(self, kind, deed, loan, days, *given):
        with self.assertRaises(LoanError) as why:
            self.told(deed, loan, days, *given)
        self.assertIs(type(why.exception), kind, (days, given))


class DueDaysTest(PlanCase):
    def deeds(self):
        return [(plan, (5,)), (least_part, ()), (cost, (5,)), (saved, (5, 40, 1))]

    def later_loan(self):
        """A loan that stands at day 40."""
        loan = Loan(1000, [(0, 1000)])
        loan.pay(40, 10)
        return loan

    def test_good_due_days(self):
        rows = [[40], [41], [100000], [40, 41, 42], [50, 99999, 100000], [40, 100000]]
        for deed, given in self.deeds():
            for days in rows:
                self.told(deed, self.later_loan(), days, *given)

    def test_ahead_of_the_loans_own_day(self):
        for deed, given in self.deeds():
            for days in [[39], [0], [-1], [39, 50], [0, 1, 60]] + [[low] for low in LOW]:
                self.refused(BadDay, deed, self.later_loan(), days, *given)

    def test_behind_the_last_day(self):
        for deed, given in self.deeds():
            for days in [[100001], [50, 100001], [100000, 100001], HUGE, [50, 60] + HUGE]:
                self.refused(BadDay, deed, self.later_loan(), days, *given)

    def test_equal_and_falling(self):
        rows = [[50, 50], [51, 50], [50, 60, 60], [50, 60, 59], [50, 60, 50], [50, 60, -1], [50, 50, 60], [100000, 50]]
        for deed, given in self.deeds():
            for days in rows:
                self.refused(BadDay, deed, self.later_loan(), days, *given)

    def test_a_new_loan_from_day_0_on(self):
        for deed, given in [(plan, (5,)), (least_part, ()), (cost, (5,)), (saved, (5, 0, 1))]:
            self.told(deed, thousand(), [0], *given)
            self.refused(BadDay, deed, thousand(), [-1], *given)
            self.refused(BadDay, deed, thousand(), [-1, 5], *given)

    def test_bad_due_days_behind_the_end_of_a_plan(self):
        for deed, given in [(plan, (2000,)), (least_part, ()), (cost, (2000,)), (saved, (2000, 0, 1))]:
            for days in [[3, 3], [3, 2], [3, 4, 100001], [3, 9, 9]]:
                self.refused(BadDay, deed, thousand(), days, *given)

    def test_of_a_loan_that_is_paid_back(self):
        loan = thousand()
        loan.pay(3, 1004)
        for deed, given in [(plan, (5,)), (least_part, ()), (cost, (5,)), (saved, (5, 3, 1))]:
            for days in [[2], [3, 3], [100001]]:
                self.refused(BadDay, deed, loan, days, *given)

    def test_without_due_days(self):
        paid_back = thousand()
        paid_back.pay(3, 1004)
        for loan in [thousand(), paid_back]:
            self.assertEqual(self.told(plan, loan, [], 5), [])
            self.refused(BadDay, least_part, loan, [])
            for part in [5, 1, 0, -1] + HUGE + LOW:
                self.refused(BadDay, cost, loan, [], part)
                self.refused(BadDay, saved, loan, [], part, 3, 1)


class PartTest(PlanCase):
    def test_no_cents_and_less(self):
        for part in [0, -1, -1000] + LOW:
            for days in [[3], [3, 5, 9], [0], [100000]]:
                self.refused(BadPay, plan, thousand(), days, part)
                self.refused(BadPay, cost, thousand(), days, part)
                self.refused(BadPay, saved, thousand(), days, part, 0, 1)
            self.refused(BadPay, plan, thousand(), [], part)

    def test_of_a_loan_that_is_paid_back(self):
        loan = thousand()
        loan.pay(3, 1004)
        self.refused(BadPay, plan, loan, [3], 0)
        self.refused(BadPay, cost, loan, [3], 0)
        self.refused(BadPay, saved, loan, [3], 0, 3, 1)

    def test_the_due_days_ahead_of_the_part(self):
        for part in [0, -1] + LOW:
            for days in [[-1], [3, 3], [5, 4], [100001], [3, 100001]]:
                self.refused(BadDay, plan, thousand(), days, part)
                self.refused(BadDay, cost, thousand(), days, part)
                self.refused(BadDay, saved, thousand(), days, part, 0, 1)


class PlanTest(PlanCase):
    def plan(self, loan, days, part):
        return self.told(plan, loan, days, part)

    def test_an_ordinary_plan(self):
        told = self.plan(thousand(), [3, 5, 9], 400)
        self.assertEqual(told, [(3, 400, 3, 397, 603), (5, 400, 2, 398, 205), (9, 207, 2, 205, 0)])

    def test_kinds_of_what_is_told(self):
        told = self.plan(thousand(), [3, 5, 9], 400)
        self.assertIs(type(told), list)
        for payment in told:
            self.assertIs(type(payment), tuple)
            self.assertEqual([type(number) for number in payment], [int] * 5)

    def test_a_plan_that_does_not_pay_back_all(self):
        self.assertEqual(self.plan(thousand(), [3, 5], 400), [(3, 400, 3, 397, 603), (5, 400, 2, 398, 205)])
        self.assertEqual(self.plan(thousand(), [3], 400), [(3, 400, 3, 397, 603)])

    def test_a_plan_that_ends_early(self):
        told = [(3, 400, 3, 397, 603), (5, 400, 2, 398, 205), (9, 207, 2, 205, 0)]
        for days in [[3, 5, 9, 10], [3, 5, 9, 11, 500, 100000]]:
            self.assertEqual(self.plan(thousand(), days, 400), told)

    def test_a_part_of_one_cent(self):
        told = self.plan(thousand(), [1, 2, 3], 1)
        self.assertEqual(told, [(1, 1, 1, 0, 1000), (2, 1, 1, 0, 1000), (3, 1, 1, 0, 1000)])
        self.assertEqual(self.plan(thousand(), [0, 1], 1), [(0, 1, 0, 1, 999), (1, 1, 0, 1, 998)])

    def test_around_exactly_what_is_owed(self):
        self.assertEqual(self.plan(thousand(), [3], 1004), [(3, 1004, 4, 1000, 0)])
        self.assertEqual(self.plan(thousand(), [3, 4, 5], 1004), [(3, 1004, 4, 1000, 0)])
        for part in [1005, 1006, 5000, 10 ** 12, 10 ** 30] + HUGE:
            self.assertEqual(self.plan(thousand(), [3, 4, 5], part), [(3, 1004, 4, 1000, 0)])
        self.assertEqual(self.plan(thousand(), [3, 4, 5], 1002), [(3, 1002, 3, 999, 1), (4, 2, 1, 1, 0)])

    def test_nothing_left_and_a_cent_begun(self):
        self.assertEqual(self.plan(thousand(), [3], 1003), [(3, 1003, 3, 1000, 0)])
        self.assertEqual(self.plan(thousand(), [3, 9, 10], 1003), [(3, 1003, 3, 1000, 0), (9, 1, 1, 0, 0)])

    def test_the_last_payment_may_be_the_whole_part(self):
        loan = Loan(1000, [(0, 0)])
        told = [(4, 250, 0, 250, 750), (5, 250, 0, 250, 500), (6, 250, 0, 250, 250), (7, 250, 0, 250, 0)]
        self.assertEqual(self.plan(loan, [4, 5, 6, 7], 250), told)
        self.assertEqual(self.plan(loan, [4, 5, 6, 7, 8, 9], 250), told)

    def test_the_loans_own_day_and_the_last_day(self):
        loan = thousand()
        loan.pay(3, 1)
        told = [(3, 400, 2, 398, 602), (100000, 400, 400, 0, 602)]
        self.assertEqual(self.plan(loan, [3, 100000], 400), told)
        self.assertEqual(self.plan(thousand(), [0], 400), [(0, 400, 0, 400, 600)])
        loan.pay(100000, 1)
        begun = 2500000 + 99997 * 1500 * 1000 - 1000000
        owed = 1000 + (begun + 999999) // 1000000
        self.assertEqual(self.plan(loan, [100000], owed), [(100000, owed, owed - 1000, 1000, 0)])

    def test_a_loan_that_is_paid_back(self):
        loan = thousand()
        loan.pay(3, 1004)
        for days in [[], [3], [4, 5, 6], [100000]]:
            self.assertEqual(self.plan(loan, days, 1), [])

    def test_a_loan_that_stands_on_a_later_day(self):
        loan = thousand()
        loan.pay(3, 400)
        self.assertEqual(self.plan(loan, [5, 9], 400), [(5, 400, 2, 398, 205), (9, 207, 2, 205, 0)])

    def test_a_change_of_the_rate_counts(self):
        loan = thousand()
        loan.change(5, 100000)
        told = [(4, 400, 5, 395, 605), (6, 400, 121, 279, 326)]
        self.assertEqual(self.plan(loan, [4, 6], 400), told)

    def test_what_is_told_is_the_askers_own(self):
        loan = thousand()
        days = [3, 5, 9]
        told = plan(loan, days, 400)
        kept = list(told)
        days[0] = 4
        self.assertEqual(told, kept)
        loan.pay(2, 500)
        loan.change(4, 9)
        self.assertEqual(told, kept)
        told.clear()
        self.assertEqual(plan(thousand(), [3, 5, 9], 400), kept)
        empty = plan(loan, [], 4)
        empty.append(1)
        self.assertEqual(plan(loan, [], 4), [])


class LeastPartTest(PlanCase):
    def least(self, loan, days):
        """The least part, held against plans by it and by one cent less."""
        part = self.told(least_part, loan, days)
        self.assertIs(type(part), int)
        if part > 0:
            self.assertEqual(self.behind(loan, days, part), 0)
        if part > 1:
            self.assertGreater(self.behind(loan, days, part - 1), 0)
        return part

    def behind(self, loan, days, part):
        """What is owed on the last due day behind a plan."""
        twin = loan.twin()
        for day, paid, _, _, _ in plan(loan, days, part):
            twin.pay(day, paid)
        return twin.owed(days[-1])

    def test_ordinary_due_days(self):
        self.assertEqual(self.least(thousand(), [3, 5, 9]), 336)
        self.assertEqual(self.least(Loan(1000, [(0, 0)]), [1, 2, 3]), 334)
        self.assertEqual(self.least(Loan(1000, [(0, 0)]), [1, 2, 3, 4]), 250)

    def test_one_due_day_takes_all_that_is_owed(self):
        self.assertEqual(self.least(thousand(), [3]), 1004)
        self.assertEqual(self.least(thousand(), [0]), 1000)
        self.assertEqual(self.least(thousand(), [100000]), 1000 + 149999)

    def test_a_begun_cent_counts(self):
        # One cent is left, and each day a millionth of a cent is begun.
        loan = Loan(1000, [(0, 1)])
        loan.pay(0, 999)
        self.assertEqual(self.least(loan, [1]), 2)
        self.assertEqual(self.least(loan, [1, 2]), 1)

    def test_a_part_of_one_cent(self):
        self.assertEqual(self.least(Loan(1, [(0, 0)]), [7]), 1)
        self.assertEqual(self.least(Loan(3, [(0, 0)]), [7, 8, 9]), 1)
        self.assertEqual(self.least(Loan(3, [(0, 0)]), [7, 8, 9, 10, 11]), 1)
        self.assertEqual(self.least(Loan(4, [(0, 0)]), [7, 8, 9]), 2)

    def test_nothing_owed_at_all(self):
        loan = thousand()
        loan.pay(3, 1004)
        for days in [[3], [4, 5], [100000]]:
            self.assertEqual(self.least(loan, days), 0)

    def test_nothing_left_and_a_cent_begun(self):
        loan = thousand()
        loan.pay(3, 1003)
        for days in [[3], [4, 5], [100000]]:
            self.assertEqual(self.least(loan, days), 1)

    def test_the_loans_own_day(self):
        loan = thousand()
        loan.pay(3, 1)
        self.assertEqual(self.least(loan, [3]), 1003)
        self.assertEqual(self.least(loan, [3, 4]), 502)

    def test_interest_above_the_amount(self):
        loan = Loan(10, [(0, 100000)])
        self.assertEqual(self.least(loan, [1000]), 1010)
        self.assertEqual(self.least(loan, [1000, 1001]), 506)

    def test_the_first_due_day_is_the_dearest(self):
        loan = Loan(1000, [(0, 100000), (11, 0)])
        self.assertEqual(self.least(loan, [10]), 2000)
        self.assertEqual(self.least(loan, [10, 20]), 1000)


class CostTest(PlanCase):
    def cost(self, loan, days, part):
        told = self.told(cost, loan, days, part)
        self.assertIs(type(told), int)
        return told

    def test_a_plan_that_pays_back_all(self):
        self.assertEqual(self.cost(thousand(), [3, 5, 9], 400), 400 + 400 + 207)

    def test_a_plan_that_ends_early(self):
        self.assertEqual(self.cost(thousand(), [3, 5, 9, 10, 100000], 400), 1007)

    def test_a_plan_that_does_not_pay_back_all(self):
        # Behind it 205 cents are left on day 5, and 309000 millionths are begun.
        self.assertEqual(self.cost(thousand(), [3, 5], 400), 800 + 206)
        self.assertEqual(self.cost(thousand(), [3], 400), 400 + 604)
        self.assertEqual(self.cost(thousand(), [3], 1), 1 + 1003)

    def test_around_exactly_what_is_owed(self):
        for part in [1003, 1004, 1005, 10 ** 12] + HUGE:
            self.assertEqual(self.cost(thousand(), [3], part), 1004)
            self.assertEqual(self.cost(thousand(), [3, 9], part), 1004)
        self.assertEqual(self.cost(thousand(), [0], 2000), 1000)

    def test_the_last_due_day_counts_where_the_plan_goes_on(self):
        loan = Loan(1000, [(0, 100000)])
        self.assertEqual(self.cost(loan, [1], 100), 1100)
        self.assertEqual(self.cost(loan, [1, 11], 100), 2100)
        self.assertEqual(self.cost(loan, [1, 100000], 1), 1000 + 100 * 100000)

    def test_a_loan_that_is_paid_back(self):
        loan = thousand()
        loan.pay(3, 1004)
        self.assertEqual(self.cost(loan, [3], 1), 0)
        self.assertEqual(self.cost(loan, [4, 100000], 50), 0)

    def test_nothing_left_and_a_cent_begun(self):
        loan = thousand()
        loan.pay(3, 1003)
        self.assertEqual(self.cost(loan, [4, 5], 7), 1)


class SavedTest(PlanCase):
    def saved(self, loan, days, part, day, cents):
        told = self.told(saved, loan, days, part, day, cents)
        self.assertIs(type(told), int)
        self.assertGreaterEqual(told, 0)
        return told

    def tenth(self):
        """Brings a tenth of what is left, each day."""
        return Loan(1000, [(0, 100000)])

    def test_an_ordinary_early_payment(self):
        self.assertEqual(cost(thousand(), [3, 5, 9], 400), 1007)
        self.assertEqual(self.saved(thousand(), [3, 5, 9], 400, 0, 100), 1)
        # Without it three days bring 100, 100 and 90; with it 50, 50 and 30.
        self.assertEqual(cost(self.tenth(), [2, 3], 300), 1290)
        self.assertEqual(self.saved(self.tenth(), [2, 3], 300, 0, 500), 160)

    def test_between_the_loans_own_day_and_the_first_due_day(self):
        # The three days bring 100, 60 and 36 with it.
        self.assertEqual(self.saved(self.tenth(), [2, 3], 300, 1, 500), 94)

    def test_on_the_first_due_day(self):
        # It is paid ahead of the part, and the third day brings 40 instead of 90.
        self.assertEqual(self.saved(self.tenth(), [2, 3], 300, 2, 500), 50)

    def test_of_one_cent(self):
        self.assertEqual(self.saved(thousand(), [3, 5, 9], 400, 0, 1), 0)
        self.assertEqual(self.saved(Loan(1000, [(0, 100000)]), [10], 1, 0, 1), 1)
        self.assertEqual(self.saved(Loan(1000, [(0, 100000)]), [1000], 1, 0, 1), 100)
        self.assertEqual(self.saved(Loan(1000, [(0, 100000)]), [1000], 1, 1000, 1), 0)

    def test_of_all_that_is_owed(self):
        self.assertEqual(self.saved(thousand(), [3, 5, 9], 400, 0, 1000), 7)
        self.assertEqual(self.saved(thousand(), [3, 5, 9], 400, 1, 1001), 6)
        self.assertEqual(self.saved(thousand(), [3, 5, 9], 400, 3, 1004), 3)
        self.assertEqual(self.saved(thousand(), [3], 2000, 3, 1004), 0)

    def test_of_all_but_a_cent_that_is_begun(self):
        self.assertEqual(self.saved(thousand(), [3, 5, 9], 400, 3, 1003), 3)

    def test_of_a_cent_too_much(self):
        for day, owed in [(0, 1000), (1, 1001), (2, 1002), (3, 1004)]:
            self.saved(thousand(), [3, 5, 9], 400, day, owed)
            for cents in [owed + 1, owed + 2, 10 ** 12] + HUGE:
                self.refused(BadPay, saved, thousand(), [3, 5, 9], 400, day, cents)

    def test_of_no_cents_and_less(self):
        for cents in [0, -1, -1000] + LOW:
            for day in [0, 1, 3]:
                self.refused(BadPay, saved, thousand(), [3, 5, 9], 400, day, cents)

    def test_around_the_first_due_day(self):
        for day in [4, 5, 6, 9, 10, 100000, 100001] + HUGE:
            self.refused(BadDay, saved, thousand(), [3, 5, 9], 400, day, 1)
        self.saved(thousand(), [100000], 400, 100000, 1)
        self.refused(BadDay, saved, thousand(), [100000], 400, 100001, 1)

    def test_around_the_loans_own_day(self):
        loan = thousand()
        loan.pay(2, 2)
        self.assertEqual(self.saved(loan, [3, 5, 9], 400, 2, 1000), 1005 - 1000)
        for day in [1, 0, -1] + LOW:
            self.refused(BadDay, saved, loan, [3, 5, 9], 400, day, 1)
        self.assertEqual(self.saved(loan, [2, 5, 9], 400, 2, 1), 0)
        self.refused(BadDay, saved, loan, [2, 5, 9], 400, 3, 1)
        self.refused(BadDay, saved, thousand(), [0, 9], 400, -1, 1)
        self.refused(BadDay, saved, thousand(), [0, 9], 400, 1, 1)

    def test_a_loan_that_is_paid_back(self):
        loan = thousand()
        loan.pay(3, 1004)
        for cents in [0, 1, 1004]:
            self.refused(BadPay, saved, loan, [5, 9], 400, 4, cents)
            self.refused(BadDay, saved, loan, [5, 9], 400, 2, cents)

    def test_the_order_of_the_refusals(self):
        for cents in [0, 1, 5000]:
            for day in [0, -1, 4, 100001]:
                for part in [400, 0]:
                    for days in [[], [-1], [3, 3], [3, 100001]]:
                        self.refused(BadDay, saved, thousand(), days, part, day, cents)
                self.refused(BadPay, saved, thousand(), [3, 5], 0, day, cents)
            for day in [-1, 4, 100001]:
                self.refused(BadDay, saved, thousand(), [3, 5], 400, day, cents)

    def test_where_neither_plan_pays_back_all(self):
        # The parts pay interest alone: 20 days bring 90 each instead of 100.
        self.assertEqual(self.saved(self.tenth(), [10, 20], 50, 0, 100), 200)

    def test_asking_again_tells_the_same(self):
        loan = thousand()
        for _ in range(3):
            self.assertEqual(self.saved(loan, [3, 5, 9], 400, 0, 1000), 7)
            self.assertEqual(self.told(cost, loan, [3, 5, 9], 400), 1007)
            self.assertEqual(self.told(least_part, loan, [3, 5, 9]), 336)


if __name__ == "__main__":
    unittest.main()
